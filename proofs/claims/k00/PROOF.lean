import PyProof.Rows.All
import Wide.All
import OpenK.AllK
import Wide.FinOn
import HandS.ForMost
import HandS.ForExc
import HandS.Wide
import HandS.WideBits
import HandS.Gcd
import HandS.IsInst
import HandS.ExcIs
import HandS.Codes
import HandS.Defaults
import KE.KOpsOwn
import HandS.OwnEq
import PyProof.Rows.Range3
import HandS.List
import HandS.Words
import HandS.WordsExc
import HandS.ExcOwn
import PySem.Challenge.RW_spotheights_k00_ratios_are_exact
import KE.KExcLine
set_option Elab.async false
set_option linter.all false
set_option maxRecDepth 100000
set_option maxHeartbeats 2000000
/-! Readings run by simp, from the outside in: one equation a construct. -/
namespace SpX
open PySem PySem.Spec L2

section
variable {D : Ends} {σ : L2.St} {H : Hp} {Q : VK} {R : Bool → Hp → Prop} {t u : TS} {te ta tb : TE} {tc tt tu : TT} {g : TG} {i : Nat} {v x y : V} {o : Option V} {r : R2} {K : PySem.W.Frag}
theorem x_seq : tSeq t u D σ H = t { D with nx := u D } σ H := rfl
theorem x_next : tNext D σ H = D.nx σ H := rfl
theorem x_asg : tAsg te g D σ H = te σ H (fun x H1 => g x σ H1 D.nx) := rfl
theorem x_name {Q : L2.St → Hp → Prop} : gName i v σ H Q = Q (σ.set i (some v)) H := rfl
theorem x_drop : tDrop te D σ H = te σ H (fun _ H1 => D.nx σ H1) := rfl
theorem x_ret : tRet te D σ H = te σ H D.rt := rfl
theorem x_if : tIfS tc t u D σ H = tc σ H (fun b H1 => if b = true then t D σ H1 else u D σ H1) := rfl
theorem x_var0 : tVar 0 (some v :: σ) H Q = Q v H := by
  unfold tVar
  simp
theorem x_varS : tVar (i + 1) (o :: σ) H Q = tVar i σ H Q := by
  unfold tVar
  simp
theorem x_c : tC v σ H Q = Q v H := rfl
theorem x_op : tOp r ta tb σ H Q = ta σ H (fun x H1 => tb σ H1 fun y H2 => r x y H2 Q) := rfl
theorem x_un {r : V → Hp → VK → Prop} : tUn r ta σ H Q = ta σ H (fun x H1 => r x H1 Q) := rfl
theorem x_I0 {g : Int → Int → V} {a b : Int} : rI0 g (.int a) (.int b) H Q = Q (g a b) H := by
  unfold rI0
  simp
theorem x_I {C : Int → Int → Prop} {g : Int → Int → V} {a b : Int} : rI C g (.int a) (.int b) H Q = (C a b ∧ Q (g a b) H) := by
  unfold rI
  simp
theorem x_U {g : Int → V} {a : Int} : rU g (.int a) H Q = Q (g a) H := by
  unfold rU
  simp
theorem x_test : tTest te σ H R = te σ H (fun x H' => ∃ k, x = .bl k ∧ R k H') := rfl
theorem x_B : tB te σ H R = te σ H (fun x H' => ∃ k, x = .bl k ∧ R k H') := rfl
theorem x_bl {b : Bool} {P : Bool → Prop} : (∃ k, V.bl b = .bl k ∧ P k) = P b := by simp
theorem x_not : tNot tt σ H R = tt σ H (fun c H1 => R (!c) H1) := rfl
theorem x_and : tAnd tt tu σ H R = tt σ H (fun c H1 => if c = true then tu σ H1 R else R false H1) := rfl
theorem x_or : tOr tt tu σ H R = tt σ H (fun c H1 => if c = true then R true H1 else tu σ H1 R) := rfl
theorem x_andV : tAndV ta tb σ H Q = ta σ H (fun x H1 => ∃ c, x = .bl c ∧ if c = true then tb σ H1 Q else Q (.bl false) H1) := rfl
theorem x_orV : tOrV ta tb σ H Q = ta σ H (fun x H1 => ∃ c, x = .bl c ∧ if c = true then Q (.bl true) H1 else tb σ H1 Q) := rfl
theorem x_notV : tNotV ta σ H Q = ta σ H (fun x H1 => ∃ c, x = .bl c ∧ Q (.bl (!c)) H1) := rfl
theorem x_ifE : tIf tt ta tb σ H Q = tt σ H (fun c H1 => if c = true then ta σ H1 Q else tb σ H1 Q) := rfl
theorem x_eqI {a b : Int} : rEq (.int a) (.int b) H Q = Q (.bl (decide (a = b))) H := by
  unfold rEq scal
  simp
theorem x_neI {a b : Int} : rNe (.int a) (.int b) H Q = Q (.bl (!decide (a = b))) H := by
  unfold rNe scal
  simp
theorem x_eqB {a b : Bool} : rEq (.bl a) (.bl b) H Q = Q (.bl (decide (a = b))) H := by
  unfold rEq scal
  simp
theorem x_neB {a b : Bool} : rNe (.bl a) (.bl b) H Q = Q (.bl (!decide (a = b))) H := by
  unfold rNe scal
  simp
theorem x_nil {QA : List V → Hp → Prop} : tNil σ H QA = QA [] H := rfl
theorem x_cons {ta : TE} {tr : TA} {QA : List V → Hp → Prop} : tCons ta tr σ H QA = ta σ H (fun x H1 => tr σ H1 fun xs H2 => QA (x :: xs) H2) := rfl
theorem x_cb {r : List V → Hp → VK → Prop} {t : TA} : tCB r t σ H Q = t σ H (fun vs H1 => r vs H1 Q) := rfl
theorem x_call {sp : Sp} {dvs : List V} {E : XK} {t : TA} : tCall sp dvs E t σ H Q = t σ H (fun vs H1 => sp (vs ++ dvs) H1 Q E) := rfl
theorem x_lst {t : TA} : tLst t σ H Q = t σ H (fun xs H1 => xs.length ≤ sizeLine ∧ ∀ p, H1 p = none → Q (.ref p) (upd H1 p (.lst xs))) := rfl
theorem x_tup {t : TA} : tTup t σ H Q = t σ H (fun xs H1 => xs.length ≤ sizeLine ∧ ∀ p, H1 p = none → Q (.ref p) (upd H1 p (.tup xs))) := rfl
theorem x_gsub {to ti : TE} {ts : TSet} {Q : L2.St → Hp → Prop} : gSub to ti ts v σ H Q = to σ H (fun o H1 => ti σ H1 fun i H2 => ts o i v H2 fun H3 => Q σ H3) := rfl
theorem x_sl {r : V → Option Int → Option Int → Hp → VK → Prop} {tl th : TO} : tSl r te tl th σ H Q = te σ H (fun x H1 => tl σ H1 fun l H2 => th σ H2 fun u H3 => r x l u H3 Q) := rfl
theorem x_part {QO : Option Int → Hp → Prop} : tPart te σ H QO = te σ H (fun x H1 => ∃ i, x = .int i ∧ QO (some i) H1) := rfl
theorem x_nopart {QO : Option Int → Hp → Prop} : tNoPart σ H QO = QO none H := rfl
theorem x_int {a : Int} {P : Int → Prop} : (∃ k, V.int a = .int k ∧ P k) = P a := by simp
theorem x_set0 {α : Type} {a b : α} {l : List α} : (a :: l).set 0 b = b :: l := rfl
theorem x_setS {α : Type} {a b : α} {l : List α} : (a :: l).set (i + 1) b = a :: l.set i b := rfl

/-! ### reads of what is tracked -/
theorem SqL.at {p : Addr} {xs : List V} (h : H p = some (.lst xs)) : SqL K H p xs := .inl (.inl h)
theorem SqT.at {p : Addr} {xs : List V} (h : H p = some (.tup xs)) : SqT K H p xs := .inl (.inl h)
end
end SpX

set_option Elab.async false
set_option linter.all false
set_option maxRecDepth 100000
set_option maxHeartbeats 4000000
/-! Operators of a class of the text's own: the rules for instances beside instances and ints. -/
namespace SpX
open PySem PySem.Spec PyProof.Rows L2
section
variable {X : Cx} {CX : CXT} {k : Nat} {f C : Addr} {fd : FuncData} {ps : List Str} {sp : Sp} {E : XK} {op : Operator}

/-- // by a divisor of either sign -/
def CDivF (_ j : Int) : Prop := j ≠ 0 ∧ j.natAbs.log2 < 9000
theorem op_fdivF : OpR X (binaryOp .FloorDiv) (rI CDivF fun i j => .int (i.fdiv j)) := opI fun i j _ _ _ _ _ hc q => PyProof.Rows.floordiv_int hc.1 q (.inl (PyProof.noPylong_of_log2 hc.2))

theorem ep_back {pins : List (Addr × Obj)} {σ : L2.St} {Q : VK} {u : Value} {s' : Shared} (h : EP X pins σ Q u s') : PySem.W.CmpBack (EP X pins σ Q) u s' := by
  cases u with
  | notImplemented =>
    obtain ⟨v, H', I, r, q⟩ := h
    cases v <;> first
      | exact nomatch (show Value.notImplemented = _ from r)
      | exact (let ⟨_, e⟩ := (show ∃ t, Value.notImplemented = _ from r); nomatch e)
  | _ => exact h

/-- what the text must say of the operator op of the class at C: f its method -/
structure OwnOp (K : PySem.W.Frag) (C : Addr) (op : Operator) (f : Addr) : Prop where
  hs : PySem.W.findIn K (.ref C) (PySem.dunder op.info.2) = some (some (.ref f))
  hf : PySem.W.isFn K (.ref f) = true
  hc : PySem.W.selfFirst K C = true
/-- .. beside an int -/
structure OwnInt (K : PySem.W.Frag) (C : Addr) (op : Operator) : Prop where
  hr : ∃ rc, PySem.W.findIn K (.ref C) (dunderR op.info.2) = some rc ∧ (rc = none ∨ ∃ g : Addr, rc = some (.ref g))
  h1 : ∃ fo, PySem.W.findIn K (.type "int") (PySem.dunder op.info.2) = some fo
  h2 : ∃ ro, PySem.W.findIn K (.type "int") (dunderR op.info.2) = some ro
  hsub : PySem.W.subIn K (.type "int") (.ref C) = some false

/-- instance op instance -/
def rOwn2 (C : Addr) (sp : Sp) (E : XK) : R2 := fun x y H Q => ∃ a b dx dy fs gs, x = .ref a ∧ y = .ref b ∧ H a = some (.ins C dx fs) ∧ H b = some (.ins C dy gs) ∧ sp [.ref a, .ref b] H Q E
theorem op_own2 (O : OwnOp X.K C op f) (F : FnOk X.prog X.w X.K X.mg X.base CX k f fd ps sp) (hr : Room k X.A) (hb : Binds X.K fd ps []) (hx : Passes CX X E) : OpR X (binaryOp op) (rOwn2 C sp E) := by
  intro pins s σ H x y v u Q I rx ry h
  obtain ⟨a, b, dx, dy, fs, gs, rfl, rfl, ha, hb', hsp⟩ := h
  cases rx
  cases ry
  obtain ⟨mA, J, _⟩ := ins_get I.hok ha
  obtain ⟨mB, J', _⟩ := ins_get I.hok hb'
  obtain ⟨od, J, _⟩ := J.look
  obtain ⟨od', J', _⟩ := J'.look
  obtain ⟨m, hF⟩ := I.fr
  refine PySem.W.binop_K hF I.ok.mod.kin J J'.type O.hc O.hs O.hf ?_
  refine thn (run_fn (us := [.ref a, .ref b]) (vs := [.ref a, .ref b]) (dvs := []) F hr hb .nil hx I (.cons rfl (.cons rfl .nil)) hsp) fun u s' q => ep_back q
/-- instance op int -/
def rOwnI (C : Addr) (sp : Sp) (E : XK) : R2 := fun x y H Q => ∃ a i dx fs, x = .ref a ∧ y = .int i ∧ H a = some (.ins C dx fs) ∧ sp [.ref a, .int i] H Q E
theorem op_ownI (O : OwnOp X.K C op f) (N : OwnInt X.K C op) (F : FnOk X.prog X.w X.K X.mg X.base CX k f fd ps sp) (hr : Room k X.A) (hb : Binds X.K fd ps []) (hx : Passes CX X E) : OpR X (binaryOp op) (rOwnI C sp E) := by
  intro pins s σ H x y v u Q I rx ry h
  obtain ⟨a, i, dx, fs, rfl, rfl, ha, hsp⟩ := h
  cases rx
  obtain ⟨t, rfl⟩ := ry
  obtain ⟨mA, J, _⟩ := ins_get I.hok ha
  obtain ⟨od, J, _⟩ := J.look
  obtain ⟨m, hF⟩ := I.fr
  obtain ⟨rc, h3, h4⟩ := N.hr
  obtain ⟨fo, h1⟩ := N.h1
  obtain ⟨ro, h2⟩ := N.h2
  refine PySem.W.ksp_binT (T := "int") hF I.ok.mod.kin J rfl O.hc O.hs O.hf h3 h4 h1 h2 N.hsub ?_
  refine thn (run_fn (us := [.ref a, .int i t]) (vs := [.ref a, .int i]) (dvs := []) F hr hb .nil hx I (.cons rfl (.cons ⟨t, rfl⟩ .nil)) hsp) fun u s' q => ep_back q
/-- - instance -/
def rOwnU (C : Addr) (sp : Sp) (E : XK) : V → Hp → VK → Prop := fun x H Q => ∃ a dx fs, x = .ref a ∧ H a = some (.ins C dx fs) ∧ sp [.ref a] H Q E
theorem un_own (hs : PySem.W.findIn X.K (.ref C) "__neg__" = some (some (.ref f))) (hf : PySem.W.isFn X.K (.ref f) = true) (F : FnOk X.prog X.w X.K X.mg X.base CX k f fd ps sp) (hr : Room k X.A) (hb : Binds X.K fd ps []) (hx : Passes CX X E) :
    UnR X (unaryOp .USub) (rOwnU C sp E) := by
  intro pins s σ H x v Q I rx h
  obtain ⟨a, dx, fs, rfl, ha, hsp⟩ := h
  cases rx
  obtain ⟨mA, J, _⟩ := ins_get I.hok ha
  obtain ⟨od, J, _⟩ := J.look
  obtain ⟨m, hF⟩ := I.fr
  refine PySem.W.ksp_neg hF I.ok.mod.kin J hs hf ?_
  exact run_fn (us := [.ref a]) (vs := [.ref a]) (dvs := []) F hr hb .nil hx I (.cons rfl .nil) hsp

/-- the callee runs below a builtin -/
theorem run_fnA {A : Around} {pins : List (Addr × Obj)} {σ : L2.St} {H : Hp} {s : Shared} {Q : VK} {us : List Value} {vs : List V} (sb : Sub X k A) (F : FnOk X.prog X.w X.K X.mg X.base CX k f fd ps sp) (hb : Binds X.K fd ps []) (hx : Passes CX X E)
    (I : Inv X pins σ H s) (r : Vals vs us) (h : sp vs H Q E) : wpAny (model X.prog X.w) A (call (.ref f) us) (EP X pins σ Q) X.xe s := by
  have e0 : Env0 X.prog X.w X.K X.mg X.base A X.stack s H := by
    have e := I.env0
    exact ⟨by rw [sb.fr]; exact e.frames, e.mod, e.bs, e.bsz, e.funs, e.frf, e.hok, e.bare⟩
  have hl := F.len _ _ _ _ h
  have b := hb s us I.kIn (by rw [List.append_nil, ← r.length]; exact hl)
  rw [List.append_nil] at b
  refine wpAny_call (codeAny_mono (F.run A X.stack s H ⟨us, []⟩ us vs Q E sb.room e0 b r h) fun r s' hq => ?_)
  cases r with
  | error e => exact hx pins σ H s e s' I hq
  | ok fl =>
    cases fl with
    | ret u => exact I.after hq
    | next => exact False.elim hq
    | brk => exact False.elim hq
    | cont => exact False.elim hq
/-- abs(instance) -/
def rOwnAbs (C : Addr) (sp : Sp) (E : XK) : List V → Hp → VK → Prop := fun xs H Q => ∃ a dx fs, xs = [.ref a] ∧ H a = some (.ins C dx fs) ∧ sp [.ref a] H Q E
theorem call_absOwn (hs : PySem.W.findIn X.K (.ref C) "__abs__" = some (some (.ref f))) (hf : PySem.W.isFn X.K (.ref f) = true) (F : FnOk X.prog X.w X.K X.mg X.base CX k f fd ps sp) (hr : Room (k + 1) X.A) (hb : Binds X.K fd ps []) (hx : Passes CX X E) :
    CallR X (.builtin "abs") (rOwnAbs C sp E) := by
  intro pins s σ H xs us Q I r h
  obtain ⟨a, dx, fs, rfl, ha, hsp⟩ := h
  obtain ⟨u, rfl, rx⟩ := vals1 r
  cases rx
  obtain ⟨mA, J, _⟩ := ins_get I.hok ha
  obtain ⟨od, J, _⟩ := J.look
  refine PySem.Calls.call_function_entry kind_abs plain_abs entry_abs (args_abs _) ?_
  unfold Builtin.«abs»
  refine wpAny_bind (m := oneArg "abs" _) (wpAny_pure ?_)
  refine wpAny_bind (m := callSpecial? (.ref a) (Str.ofString "__abs__")) (PySem.W.special_fn I.kIn J hs (beq_iff_eq.mp hf) ?_)
  have sb : Sub X k X.A.in1 := Sub.in1 ⟨hr, rfl⟩
  refine thn (run_fnA (us := [.ref a]) (vs := [.ref a]) sb F hb hx I (.cons rfl .nil) hsp) fun u s' q => ?_
  exact wpAny_pure ⟨_, rfl, q⟩
/-- bool(instance) -/
def rOwnBool (C : Addr) (sp : Sp) (E : XK) : List V → Hp → VK → Prop := fun xs H Q => ∃ a dx fs, xs = [.ref a] ∧ H a = some (.ins C dx fs) ∧ sp [.ref a] H (fun v H' => ∃ b, v = .bl b ∧ Q (.bl b) H') E
theorem truthy_own {A : Around} {pins : List (Addr × Obj)} {s : Shared} {σ : L2.St} {H : Hp} {a dx : Addr} {fs : List (Str × V)} {Q : Bool → Hp → Prop} (sb : Sub X k A) (hs : PySem.W.findIn X.K (.ref C) "__bool__" = some (some (.ref f))) (hf : PySem.W.isFn X.K (.ref f) = true) (F : FnOk X.prog X.w X.K X.mg X.base CX k f fd ps sp)
    (hb : Binds X.K fd ps []) (hx : Passes CX X E) (I : Inv X pins σ H s) (ha : H a = some (.ins C dx fs)) (h : sp [.ref a] H (fun v H' => ∃ b, v = .bl b ∧ Q b H') E) : wpAny (model X.prog X.w) A (truthy (.ref a)) (TP X pins σ Q) X.xe s := by
  obtain ⟨mA, J, _⟩ := ins_get I.hok ha
  obtain ⟨od, J, _⟩ := J.look
  obtain ⟨m, hF⟩ := I.fr
  refine PySem.W.truthy_K hF I.ok.mod.kin J hs hf ?_
  refine thn (run_fnA (us := [.ref a]) (vs := [.ref a]) sb F hb hx I (.cons rfl .nil) h) fun u s' q => ?_
  obtain ⟨v, H', I', r, b, rfl, q⟩ := q
  cases r
  exact ⟨H', I', q⟩
theorem call_boolOwn (hs : PySem.W.findIn X.K (.ref C) "__bool__" = some (some (.ref f))) (hf : PySem.W.isFn X.K (.ref f) = true) (F : FnOk X.prog X.w X.K X.mg X.base CX k f fd ps sp) (hr : Room (k + 2) X.A) (hb : Binds X.K fd ps []) (hx : Passes CX X E) :
    CallR X (.type "bool") (rOwnBool C sp E) := by
  intro pins s σ H xs us Q I r h
  obtain ⟨a, dx, fs, rfl, ha, hsp⟩ := h
  obtain ⟨u, rfl, rx⟩ := vals1 r
  cases rx
  have sb : Sub X k X.A.in1.in1 := Sub.in1 (Sub.in1 (⟨hr, rfl⟩ : Sub X (k + 2) X.A))
  refine callType_newIn (S := fun A R s => wpAny (model X.prog X.w) A.in1 (truthy (.ref a)) (fun b s' => R (.ok (.ret (.bool b))) s') (fun e s' => R (.error e) s') s)
    PySem.F.called_bool PySem.F.newNe_bool (PySem.F.typeCall_bool_1 _) (PySem.F.newCall_bool_1 _) (fun obj => PySem.F.args_object_init_2 obj _) PySem.F.entry_bool_new ?_ ?_
  · intro A R s h
    obtain ⟨hp, g, d, tk, os⟩ := s
    have f1 := PySem.F.conv_sub_bool
    unfold Builtin.«bool.__new__»
    repeat (any_goals (first | assumption | with_reducible refine wpAny_mono h (fun b s' q => ?_) (fun _ _ x => x) | wp_step))
  · refine thn (truthy_own (Q := fun b H' => Q (.bl b) H') sb hs hf F hb hx I ha hsp) fun b s' q => ?_
    obtain ⟨H', I', q⟩ := q
    exact ⟨PySem.typeIs_bool _ _, ⟨.bl b, H', I', rfl, q⟩⟩
/-! ### int op instance: the instance's reflected method -/
theorem int_declines {prog : Program} {w : World} {A : Around} {E' : Value → Shared → Prop} {s : Shared} {nm : String} {g : Int → Int → Sem Fin} {i : Int} {t : Tok} {x C dx : Addr} {Q : Fin → Shared → Prop}
    (hsl : slotArgs nm 1 ⟨[.int i t, .ref x], []⟩ = pure (.int i t, [.ref x])) (hx : s.heap.get? x = some (PySem.W.instObj C dx)) (h : Q (.done (.ret .notImplemented)) s) :
    wpAny (model prog w) A (Builtin.Int.intBinary nm g false ⟨[.int i t, .ref x], []⟩) Q E' s := by
  unfold Builtin.Int.intBinary
  rw [hsl]
  refine wpAny_bind (wpAny_pure ?_)
  refine wpAny_bind (m := Builtin.Int.intOfSelf _) (wpAny_pure ?_)
  refine wpAny_bind (m := asInt? (.ref x)) ?_
  unfold asInt?
  refine wpAny_bind (wpAny_load hx (wpAny_pure ?_))
  refine wpAny_bind (wpAny_rule (wpAny_pure h))

end
end SpX

set_option Elab.async false
set_option linter.all false
set_option maxRecDepth 100000
set_option maxHeartbeats 4000000
namespace SpX
open PySem PySem.Spec PyProof.Rows L2
section
variable {X : Cx} {CX : CXT} {k : Nat} {f C : Addr} {fd : FuncData} {ps : List Str} {sp : Sp} {E : XK} {op : Operator}
/-- int's own method says nothing of an instance -/
def Declines (op : Operator) : Prop := ∀ (prog : Program) (w : World) (A : Around) (E' : Value → Shared → Prop) (s : Shared) (i : Int) (t : Tok) (x C dx : Addr) (Q : Option Value → Shared → Prop),
  s.heap.get? x = some (PySem.W.instObj C dx) → Q none s → wpAny (model prog w) A (tryMethod (.int i t) (PySem.dunder op.info.2) (.ref x)) Q E' s
theorem declines_of {op : Operator} {id nm : String} {g : Int → Int → Sem Fin} {B : Builtin} (slot : Slot "int" (PySem.dunder op.info.2) id) (entry : entryFor table id = some B) (hB : B = Builtin.Int.intBinary nm g false)
    (args : ∀ a b : Value, argsOk id ⟨[a, b], []⟩) (hsl : ∀ (i : Int) (t : Tok) (x : Addr), slotArgs nm 1 ⟨[.int i t, .ref x], []⟩ = pure (.int i t, [.ref x])) : Declines op := by
  intro prog w A E' s i t x C dx Q hx h
  unfold tryMethod
  refine wpAny_bind (wpAny_callSpecial?_slot (typeIs_int s i t) slot ?_)
  refine wpAny_call_entry slot (typeIs_int s i t) entry ?_ (args _ _)
  rw [hB]
  exact int_declines (hsl i t x) hx ⟨_, rfl, wpAny_pure h⟩
theorem gbin_add : ∃ g, Builtin.«int.__add__» = Builtin.Int.intBinary "__add__" g false := ⟨_, rfl⟩
theorem gslot_add (i : Int) (t : Tok) (x : Addr) : slotArgs "__add__" 1 ⟨[.int i t, .ref x], []⟩ = pure (.int i t, [.ref x]) := rfl
theorem decl_add : Declines .Add := by
  obtain ⟨g, hg⟩ := gbin_add
  refine declines_of (op := .Add) (id := "int.__add__") (nm := "__add__") (g := g) (B := Builtin.«int.__add__») ?_ ?_ ?_ ?_ ?_
  · exact slot_int_add
  · exact entry_int_add
  · exact hg
  · exact args_int_add
  · exact gslot_add
theorem gbin_sub : ∃ g, Builtin.«int.__sub__» = Builtin.Int.intBinary "__sub__" g false := ⟨_, rfl⟩
theorem gslot_sub (i : Int) (t : Tok) (x : Addr) : slotArgs "__sub__" 1 ⟨[.int i t, .ref x], []⟩ = pure (.int i t, [.ref x]) := rfl
theorem decl_sub : Declines .Sub := by
  obtain ⟨g, hg⟩ := gbin_sub
  refine declines_of (op := .Sub) (id := "int.__sub__") (nm := "__sub__") (g := g) (B := Builtin.«int.__sub__») ?_ ?_ ?_ ?_ ?_
  · exact slot_int_sub
  · exact entry_int_sub
  · exact hg
  · exact args_int_sub
  · exact gslot_sub
theorem gbin_mul : ∃ g, Builtin.«int.__mul__» = Builtin.Int.intBinary "__mul__" g false := ⟨_, rfl⟩
theorem gslot_mul (i : Int) (t : Tok) (x : Addr) : slotArgs "__mul__" 1 ⟨[.int i t, .ref x], []⟩ = pure (.int i t, [.ref x]) := rfl
theorem decl_mul : Declines .Mult := by
  obtain ⟨g, hg⟩ := gbin_mul
  refine declines_of (op := .Mult) (id := "int.__mul__") (nm := "__mul__") (g := g) (B := Builtin.«int.__mul__») ?_ ?_ ?_ ?_ ?_
  · exact slot_int_mul
  · exact entry_int_mul
  · exact hg
  · exact args_int_mul
  · exact gslot_mul
/-- what the text must say of the reflected method g -/
structure OwnRef (K : PySem.W.Frag) (C : Addr) (op : Operator) (g : Addr) : Prop where
  ex : ∃ f : Addr, PySem.W.findIn K (.ref C) (PySem.dunder op.info.2) = some (some (.ref f))
  hs : PySem.W.findIn K (.ref C) (dunderR op.info.2) = some (some (.ref g))
  hf : PySem.W.isFn K (.ref g) = true
  hc : PySem.W.selfFirst K C = true
  h1 : ∃ fo, PySem.W.findIn K (.type "int") (PySem.dunder op.info.2) = some fo ∧ (fo.isSome && !isSeqSlot fo) = true
  h2 : ∃ ro, PySem.W.findIn K (.type "int") (dunderR op.info.2) = some ro
  hsub : PySem.W.subIn K (.ref C) (.type "int") = some false
theorem binop_refl {prog : Program} {w : World} {A : Around} {E' : Value → Shared → Prop} {s : Shared} {K : PySem.W.Frag} {i : Int} {t : Tok} {x g : Addr} {dx : Addr} {od : Option Obj} {Q : Value → Shared → Prop} (X : K.In s.heap) (O : OwnRef K C op g) (D : Declines op)
    (hx : s.heap.get? x = some (PySem.W.instObj C dx)) (I : PySem.W.InstAt s.heap x (PySem.W.instObj C dx) C od)
    (h : wpAny (model prog w) A (call (.ref g) [.ref x, .int i t]) (PySem.W.CmpBack Q) E' s) : wpAny (model prog w) A (binaryOp op (.int i t) (.ref x)) Q E' s := by
  obtain ⟨cd, rest, hcd, hm⟩ := PySem.W.ksp_first O.hc
  obtain ⟨f, hs⟩ := O.ex
  obtain ⟨fo, h1, hfo⟩ := O.h1
  obtain ⟨ro, h2⟩ := O.h2
  have hsr := O.hs
  have one := PySem.W.ksp_try X I O.hs O.hf h
  have dec := D prog w A E' s i t x C dx
  rcases hi : op.info with ⟨sym, nm'⟩
  rw [hi] at hs h1 h2 hsr dec one
  dsimp only at hs h1 h2 hsr dec one
  obtain ⟨hh, g', d, tt, os⟩ := s
  have L1 : PySem.W.Looks (model prog w) hh (typeOf (.int i t)) (.type "int") := PySem.W.Looks.of_pure rfl
  have L2 : PySem.W.Looks (model prog w) hh (typeOf (.ref x)) (.ref C) := I.type
  have L3 : PySem.W.Looks (model prog w) hh (fillsNumberSlot (.type "int") nm') ((fo.isSome && !isSeqSlot fo) || (ro.isSome && !isSeqSlot ro)) := PySem.W.ksp_fillsT X h1 h2
  rw [hfo, Bool.true_or] at L3
  have L4 : PySem.W.Looks (model prog w) hh (fillsNumberSlot (.ref C) nm') true := PySem.W.fills_K X hcd hm hs
  have L5 : PySem.W.Looks (model prog w) hh (isSubtype (.ref C) (.type "int")) false := PySem.W.looks_subIn X O.hsub
  have L7 : PySem.W.Looks (model prog w) hh (numberSlotInPython (.type "int") nm') false := PySem.W.Looks.of_pure rfl
  have hne : (Value.type "int" == Value.ref C) = false := Bool.eq_false_iff.mpr fun q => by cases beq_iff_eq.mp q
  simp only [binaryOp, hi]
  refine wpAny_holding (wpAny_bind ?_)
  unfold binaryOp1
  refine wpAny_bind (L1.at (wpAny_bind (L2.at (wpAny_bind (L3.at ?_)))))
  simp only [hne, Bool.false_eq_true, if_false]
  refine wpAny_bind (L4.at ?_)
  simp only [Bool.and_self, if_true]
  refine wpAny_bind (L5.at ?_)
  simp only [Bool.false_eq_true, if_false]
  refine wpAny_bind (wpAny_pure ?_)
  simp only [Bool.not_false, Bool.and_self, if_true, Bool.false_eq_true, if_false]
  refine wpAny_bind (dec _ hx ?_)
  dsimp only
  refine wpAny_bind (wpAny_mono one (fun r s' hr' => ?_) fun _ _ e => e)
  obtain ⟨v, rfl, hq⟩ := hr'
  exact wpAny_bind (wpAny_rule (wpAny_pure (wpAny_pure hq)))
/-- int op instance -/
def rOwnR (C : Addr) (sp : Sp) (E : XK) : R2 := fun x y H Q => ∃ i a dx fs, x = .int i ∧ y = .ref a ∧ H a = some (.ins C dx fs) ∧ sp [.ref a, .int i] H Q E
theorem op_ownR (O : OwnRef X.K C op f) (Dc : Declines op) (F : FnOk X.prog X.w X.K X.mg X.base CX k f fd ps sp) (hr : Room k X.A) (hb : Binds X.K fd ps []) (hx : Passes CX X E) : OpR X (binaryOp op) (rOwnR C sp E) := by
  intro pins s σ H x y v u Q I rx ry h
  obtain ⟨i, a, dx, fs, rfl, rfl, ha, hsp⟩ := h
  obtain ⟨t, rfl⟩ := rx
  cases ry
  obtain ⟨mA, J, _⟩ := ins_get I.hok ha
  have hobj := J.obj
  obtain ⟨od, J, _⟩ := J.look
  refine binop_refl I.kIn O Dc hobj J ?_
  refine thn (run_fn (us := [.ref a, .int i t]) (vs := [.ref a, .int i]) (dvs := []) F hr hb .nil hx I (.cons rfl (.cons ⟨t, rfl⟩ .nil)) hsp) fun u s' q => ep_back q

/-! ### == by an own __eq__, whatever it answers -/
/-- what the text must say of the class's __eq__ -/
structure OwnEqF (K : PySem.W.Frag) (C f : Addr) : Prop where
  hs : PySem.W.findIn K (.ref C) "__eq__" = some (some (.ref f))
  hf : PySem.W.isFn K (.ref f) = true
  hi : PySem.W.subIn K (.type "int") (.ref C) = some false
  hci : PySem.W.subIn K (.ref C) (.type "int") = some false
theorem cmp_own2 (O : OwnEqF X.K C f) (F : FnOk X.prog X.w X.K X.mg X.base CX k f fd ps sp) (hr : Room k X.A) (hb : Binds X.K fd ps []) (hx : Passes CX X E) : OpR X (compareOp .Eq) (rOwn2 C sp E) := by
  intro pins s σ H x y v u Q I rx ry h
  obtain ⟨a, b, dx, dy, fs, gs, rfl, rfl, ha, hb', hsp⟩ := h
  cases rx
  cases ry
  obtain ⟨mA, J, _⟩ := ins_get I.hok ha
  obtain ⟨mB, J', _⟩ := ins_get I.hok hb'
  obtain ⟨od, J, _⟩ := J.look
  obtain ⟨od', J', _⟩ := J'.look
  obtain ⟨m, hF⟩ := I.fr
  show wpAny (model X.prog X.w) X.A (richCompare .Eq (.ref a) (.ref b)) (EP X pins σ Q) X.xe s
  refine PySem.W.cmp_K (op := .Eq) (tb := .ref C) hr.units0 hF I.ok.mod.kin J J'.type (by simp [PySem.W.notFirst]) O.hs O.hf ?_
  refine thn (run_fn (us := [.ref a, .ref b]) (vs := [.ref a, .ref b]) (dvs := []) F hr hb .nil hx I (.cons rfl (.cons rfl .nil)) hsp) fun u s' q => ep_back q
theorem cmp_ownI (O : OwnEqF X.K C f) (F : FnOk X.prog X.w X.K X.mg X.base CX k f fd ps sp) (hr : Room k X.A) (hb : Binds X.K fd ps []) (hx : Passes CX X E) : OpR X (compareOp .Eq) (rOwnI C sp E) := by
  intro pins s σ H x y v u Q I rx ry h
  obtain ⟨a, i, dx, fs, rfl, rfl, ha, hsp⟩ := h
  cases rx
  obtain ⟨t, rfl⟩ := ry
  obtain ⟨mA, J, _⟩ := ins_get I.hok ha
  obtain ⟨od, J, _⟩ := J.look
  obtain ⟨m, hF⟩ := I.fr
  show wpAny (model X.prog X.w) X.A (richCompare .Eq (.ref a) (.int i t)) (EP X pins σ Q) X.xe s
  refine PySem.W.cmp_K (op := .Eq) (tb := .type "int") hr.units0 hF I.ok.mod.kin J (PySem.W.Looks.of_pure rfl) (by unfold PySem.W.notFirst; rw [O.hi]; simp) O.hs O.hf ?_
  refine thn (run_fn (us := [.ref a, .int i t]) (vs := [.ref a, .int i]) (dvs := []) F hr hb .nil hx I (.cons rfl (.cons ⟨t, rfl⟩ .nil)) hsp) fun u s' q => ep_back q
/-- int == instance -/
theorem gcmp_eq (i : Int) (t : Tok) (x : Addr) : slotArgs "__eq__" 1 ⟨[.int i t, .ref x], []⟩ = pure (.int i t, [.ref x]) := rfl
theorem gbin_eq : ∃ g, Builtin.«int.__eq__» = Builtin.Int.intBinary "__eq__" g false := ⟨_, rfl⟩
theorem int_declinesC {prog : Program} {w : World} {A : Around} {E' : Value → Shared → Prop} {s : Shared} {i : Int} {t : Tok} {x C dx : Addr} {Q : Fin → Shared → Prop}
    (hsl : slotArgs "__eq__" 1 ⟨[.int i t, .ref x], []⟩ = pure (.int i t, [.ref x])) (hx : s.heap.get? x = some (PySem.W.instObj C dx)) (h : Q (.done (.ret .notImplemented)) s) :
    wpAny (model prog w) A (Builtin.«int.__eq__» ⟨[.int i t, .ref x], []⟩) Q E' s := by
  obtain ⟨g, hg⟩ := gbin_eq
  rw [hg]
  exact int_declines hsl hx h
theorem cmp_ownR (O : OwnEqF X.K C f) (F : FnOk X.prog X.w X.K X.mg X.base CX k f fd ps sp) (hr : Room k X.A) (hb : Binds X.K fd ps []) (hx : Passes CX X E) : OpR X (compareOp .Eq) (rOwnR C sp E) := by
  intro pins s σ H x y v u Q I rx ry h
  obtain ⟨i, a, dx, fs, rfl, rfl, ha, hsp⟩ := h
  obtain ⟨t, rfl⟩ := rx
  cases ry
  obtain ⟨mA, J, _⟩ := ins_get I.hok ha
  have hobj := J.obj
  obtain ⟨od, J, _⟩ := J.look
  have kin := I.kIn
  have one : wpAny (model X.prog X.w) X.A (tryCompare (.ref a) "__eq__" (.int i t)) (fun r s' => ∃ v, r = some v ∧ EP X pins σ Q v s') X.xe s := by
    unfold tryCompare
    refine wpAny_bind (PySem.W.ifBound_K kin J O.hs O.hf (wpAny_mono (run_fn (us := [.ref a, .int i t]) (vs := [.ref a, .int i]) (dvs := []) F hr hb .nil hx I (.cons rfl (.cons ⟨t, rfl⟩ .nil)) hsp) (fun v s' hv => ?_) fun _ _ e => e))
    have hv' := ep_back hv
    cases v <;> first | exact hv'.elim | exact wpAny_pure ⟨_, rfl, hv⟩
  show wpAny (model X.prog X.w) X.A (richCompare .Eq (.int i t) (.ref a)) (EP X pins σ Q) X.xe s
  unfold richCompare
  refine wpAny_holding (wpAny_bind (wpAny_cRoomFor hr.units0 ?_))
  rw [show oneThing? CmpOp.Eq (Value.int i t) (Value.ref a) = none from rfl]
  dsimp only [cmpInfo]
  have L1 : PySem.W.Looks (model X.prog X.w) s.heap (typeOf (.int i t)) (.type "int") := PySem.W.Looks.of_pure rfl
  refine wpAny_bind (L1.here (wpAny_bind (J.type.here ?_)))
  rw [if_pos (show (Value.type "int" != Value.ref C) = true from rfl)]
  refine wpAny_bind ((PySem.W.looks_subIn kin O.hci).here ?_)
  simp only [Bool.false_eq_true, if_false]
  refine wpAny_bind (m := tryCompare (.int i t) _ (.ref a)) ?_
  unfold tryCompare
  refine wpAny_bind (m := callSpecialIfBound? (.int i t) _ _) (wpAny_callSpecialIfBound?_slot (typeIs_int s i t) slot_int_eq ?_)
  refine wpAny_call_entry slot_int_eq (typeIs_int s i t) entry_int_eq ?_ (args_int_eq _ _)
  refine int_declinesC (gcmp_eq i t a) hobj ⟨_, rfl, ?_⟩
  refine wpAny_pure ?_
  rw [if_pos (show (!false) = true from rfl)]
  refine wpAny_bind (wpAny_mono one (fun r s' hr' => ?_) fun _ _ e => e)
  obtain ⟨v, rfl, hq⟩ := hr'
  exact wpAny_pure hq
end
end SpX

set_option Elab.async false
set_option linter.all false
set_option maxRecDepth 100000
set_option maxHeartbeats 2000000
/-! Readings of built-ins by short names; what stays of a heap. -/
namespace SpX
open PySem PySem.Spec L2
def rLen1 (K : PySem.W.Frag) : List V → Hp → VK → Prop := fun xs H Q => ∃ p ys, xs = [.ref p] ∧ (SqL K H p ys ∨ SqT K H p ys) ∧ Q (.int ys.length) H
def rList1 (K : PySem.W.Frag) : List V → Hp → VK → Prop := fun xs H Q => ∃ p ys, xs = [.ref p] ∧ (SqL K H p ys ∨ SqT K H p ys) ∧ ∀ l, H l = none → Q (.ref l) (upd H l (.lst ys))
def rInt1 : List V → Hp → VK → Prop := fun xs H Q => (∃ i, xs = [.int i] ∧ Q (.int i) H) ∨ ∃ k, xs = [.bl k] ∧ Q (.int (if k then 1 else 0)) H
def rBool1 : List V → Hp → VK → Prop := fun xs H Q => (∃ i, xs = [.int i] ∧ Q (.bl (i != 0)) H) ∨ ∃ k, xs = [.bl k] ∧ Q (.bl k) H
def rAbs1 : List V → Hp → VK → Prop := fun xs H Q => ∃ i, xs = [.int i] ∧ Q (.int (if i < 0 then -i else i)) H
def rMax2 : List V → Hp → VK → Prop := fun xs H Q => ∃ i j, xs = [.int i, .int j] ∧ Q (.int (if j > i then j else i)) H
def rMin2 : List V → Hp → VK → Prop := fun xs H Q => ∃ i j, xs = [.int i, .int j] ∧ Q (.int (if j < i then j else i)) H
section
variable {D : Ends} {σ : L2.St} {H : Hp} {Q : VK} {a b : Int}
theorem x_int1 : rInt1 [.int a] H Q = Q (.int a) H := by
  unfold rInt1
  simp
theorem x_abs1 : rAbs1 [.int a] H Q = Q (.int (if a < 0 then -a else a)) H := by
  unfold rAbs1
  simp
theorem x_max2 : rMax2 [.int a, .int b] H Q = Q (.int (if b > a then b else a)) H := by
  exact propext ⟨fun ⟨_, _, e, q⟩ => by cases e; exact q, fun q => ⟨_, _, rfl, q⟩⟩
theorem x_gcd : rGcd [.int a, .int b] H Q = Q (.int ((Nat.gcd a.natAbs b.natAbs : Nat) : Int)) H := by
  exact propext ⟨fun ⟨_, _, e, q⟩ => by cases e; exact q, fun q => ⟨_, _, rfl, q⟩⟩
end
section
variable {X : Cx}
theorem op_mulI : OpR X (binaryOp .Mult) (rI IntMulOk fun i j => .int (i * j)) := opI fun _ _ _ _ _ _ _ hc q => PyProof.Rows.mul_int q hc
end
theorem mul_lit {i j : Int} (h : -(2 ^ 64) < j ∧ j < 2 ^ 64) : IntMulOk i j := CMul.ok (.inr h)
theorem mul_lit' {i j : Int} (h : -(2 ^ 64) < i ∧ i < 2 ^ 64) : IntMulOk i j := CMul.ok (.inl h)
theorem mul_wide {i j : Int} {a b : Nat} (ha : i.natAbs < 2 ^ a) (hb : j.natAbs < 2 ^ b) (h0 : 0 < a) (h1 : 0 < b) (h : a + b ≤ 1000000) : IntMulOk i j := (wide_mul ha hb h0 h1 h).ok
/-! ### tracked lists and tuples alone: the readings are equations -/
def rIx1 : R2 := fun x y H Q => ∃ p xs i v, x = .ref p ∧ y = .int i ∧ (H p = some (.lst xs) ∨ H p = some (.tup xs)) ∧ atI xs i = some v ∧ Q v H
def rLenA : List V → Hp → VK → Prop := fun vs H Q => ∃ p xs, vs = [.ref p] ∧ (H p = some (.lst xs) ∨ H p = some (.tup xs)) ∧ Q (.int xs.length) H
def rListA : List V → Hp → VK → Prop := fun vs H Q => ∃ p xs, vs = [.ref p] ∧ (H p = some (.lst xs) ∨ H p = some (.tup xs)) ∧ ∀ l, H l = none → Q (.ref l) (upd H l (.lst xs))
def rSlA : V → Option Int → Option Int → Hp → VK → Prop := fun x lo hi H Q => ∃ p xs, x = .ref p ∧ H p = some (.lst xs) ∧ ∀ q, H q = none → Q (.ref q) (upd H q (.lst (cutV xs lo hi)))
section
variable {X : Cx}
theorem ix_1 : IxR X rIx1 := by
  intro value slice pins s σ H x y v u Q I rx ry h hs
  obtain ⟨p, xs, i, w, rfl, rfl, h1 | h1, h2, q⟩ := h
  · exact ix_list value slice pins s σ H _ _ v u Q I rx ry ⟨p, xs, i, w, rfl, rfl, .inl (.inl h1), h2, q⟩ hs
  · exact ix_tup value slice pins s σ H _ _ v u Q I rx ry ⟨p, xs, i, w, rfl, rfl, .inl (.inl h1), h2, q⟩ hs
theorem call_lenA : CallR X (.builtin "len") rLenA := by
  intro pins s σ H xs us Q I r h
  obtain ⟨p, ys, rfl, h1 | h1, q⟩ := h
  · exact call_len_seq pins s σ H _ us Q I r ⟨p, ys, rfl, .inl (.inl (.inl h1)), q⟩
  · exact call_len_seq pins s σ H _ us Q I r ⟨p, ys, rfl, .inr (.inl (.inl h1)), q⟩
theorem call_listA : CallR X (.type "list") rListA := by
  intro pins s σ H xs us Q I r h
  obtain ⟨p, ys, rfl, h1 | h1, q⟩ := h
  · exact call_list_of pins s σ H _ us Q I r ⟨p, ys, rfl, .inl (.inl (.inl h1)), q⟩
  · exact call_list_of pins s σ H _ us Q I r ⟨p, ys, rfl, .inr (.inl (.inl h1)), q⟩
theorem sl_A : SlR X rSlA := by
  intro pins s σ H x v vl vu lo hi sl Q I rx rs rl rh h
  obtain ⟨p, ys, rfl, h1, q⟩ := h
  exact sl_list pins s σ H _ v vl vu lo hi sl Q I rx rs rl rh ⟨p, ys, rfl, .inl (.inl h1), q⟩
end
section
variable {σ : L2.St} {H : Hp} {Q : VK} {p : Addr} {xs ys : List V} {i : Int} {v : V}
theorem x_ix (h : H p = some (.lst xs)) (ha : atI xs i = some v) : rIx1 (.ref p) (.int i) H Q = Q v H := propext (Iff.intro
  (fun ⟨_, _, _, _, e1, e2, h1, h2, q⟩ => by
    cases e1; cases e2
    rw [h] at h1
    rcases h1 with h1 | h1
    · cases h1
      rw [ha] at h2
      cases h2
      exact q
    · cases h1)
  (fun q => ⟨_, _, _, _, rfl, rfl, .inl h, ha, q⟩))

theorem x_ixT (h : H p = some (.tup xs)) (ha : atI xs i = some v) : rIx1 (.ref p) (.int i) H Q = Q v H := propext (Iff.intro
  (fun ⟨_, _, _, _, e1, e2, h1, h2, q⟩ => by
    cases e1; cases e2
    rw [h] at h1
    rcases h1 with h1 | h1
    · cases h1
    · cases h1
      rw [ha] at h2
      cases h2
      exact q)
  (fun q => ⟨_, _, _, _, rfl, rfl, .inr h, ha, q⟩))

theorem x_lenA (h : H p = some (.lst xs)) : rLenA [.ref p] H Q = Q (.int xs.length) H := propext (Iff.intro
  (fun ⟨_, _, e1, h1, q⟩ => by
    cases e1
    rw [h] at h1
    rcases h1 with h1 | h1
    · cases h1
      exact q
    · cases h1)
  (fun q => ⟨_, _, rfl, .inl h, q⟩))

theorem x_listA (h : H p = some (.lst xs)) : rListA [.ref p] H Q = ∀ l, H l = none → Q (.ref l) (upd H l (.lst xs)) := propext (Iff.intro
  (fun ⟨_, _, e1, h1, q⟩ => by
    cases e1
    rw [h] at h1
    rcases h1 with h1 | h1
    · cases h1
      exact q
    · cases h1)
  (fun q => ⟨_, _, rfl, .inl h, q⟩))

theorem x_slA {lo hi : Option Int} (h : H p = some (.lst xs)) : rSlA (.ref p) lo hi H Q = ∀ q, H q = none → Q (.ref q) (upd H q (.lst (cutV xs lo hi))) := propext (Iff.intro
  (fun ⟨_, _, e1, h1, q⟩ => by
    cases e1
    rw [h] at h1
    cases h1
    exact q)
  (fun q => ⟨_, _, rfl, h, q⟩))

theorem x_setL {k : Int} {j : Nat} {QQ : Hp → Prop} (h : H p = some (.lst xs)) (hj : ixN xs.length k = some j) : rSetL (.ref p) (.int k) v H QQ = QQ (upd H p (.lst (xs.set j v))) := propext (Iff.intro
  (fun ⟨_, _, _, _, e1, e2, h1, h2, q⟩ => by
    cases e1; cases e2
    rw [h] at h1
    cases h1
    rw [hj] at h2
    cases h2
    exact q)
  (fun q => ⟨_, _, _, _, rfl, rfl, h, hj, q⟩))

theorem x_cat {q : Addr} (h : H p = some (.lst xs)) (h' : H q = some (.lst ys)) (hz : xs.length + ys.length ≤ sizeLine) : rCat (.ref p) (.ref q) H Q = ∀ l, H l = none → Q (.ref l) (upd H l (.lst (xs ++ ys))) := propext (Iff.intro
  (fun ⟨_, _, _, _, e1, e2, h1, h2, _, q⟩ => by
    cases e1; cases e2
    rw [h] at h1
    rw [h'] at h2
    cases h1; cases h2
    exact q)
  (fun q => ⟨_, _, _, _, rfl, rfl, h, h', hz, q⟩))

theorem x_tbm {T : String} {K : PySem.W.Frag} {r : V → List V → Hp → VK → Prop} {to : TE} {t : TA} : tBM K T r to t σ H Q = to σ H (fun x H1 => tyV K T x H1 ∧ t σ H1 fun xs H2 => r x xs H2 Q) := rfl
theorem x_append (h : H p = some (.lst xs)) (hz : xs.length < sizeLine) : rAppend (.ref p) [v] H Q = Q .non (upd H p (.lst (xs ++ [v]))) := propext (Iff.intro
  (fun ⟨_, _, _, e1, e2, h1, _, q⟩ => by
    cases e1; cases e2
    rw [h] at h1
    cases h1
    exact q)
  (fun q => ⟨_, _, _, rfl, rfl, h, hz, q⟩))

end
theorem ty_lst {K : PySem.W.Frag} {H : Hp} {p : Addr} {xs : List V} (h : H p = some (.lst xs)) : tyV K "list" (.ref p) H := .inl ⟨rfl, _, .inl (.inl h)⟩
/-- all that was tracked, but for what stands at p, is as it was -/
def Keep (p : Addr) (H H' : Hp) : Prop := ∀ b o, b ≠ p → H b = some o → H' b = some o
theorem Keep.refl (p : Addr) (H : Hp) : Keep p H H := fun _ _ _ h => h
theorem Keep.trans {p : Addr} {H H1 H2 : Hp} (a : Keep p H H1) (b : Keep p H1 H2) : Keep p H H2 := fun c o n h => b c o n (a c o n h)
theorem Keep.of {p : Addr} {H H1 : Hp} (a : Same H H1) : Keep p H H1 := fun c o _ h => a c o h
theorem Same.new {H : Hp} {p : Addr} {o : HO} (h : H p = none) : Same H (upd H p o) := fun a u e => by
  rw [upd_ne (ne_of_none e h)]
  exact e
theorem Same.new' {H H1 : Hp} {p : Addr} {o : HO} (s : Same H H1) (h : H1 p = none) : Same H (upd H1 p o) := s.trans (Same.new h)
theorem Keep.new {q : Addr} {H H1 : Hp} {p : Addr} {o : HO} (s : Keep q H H1) (h : H1 p = none) : Keep q H (upd H1 p o) := s.trans (Keep.of (Same.new h))
theorem Keep.at {q : Addr} {H H1 : Hp} {o : HO} (s : Keep q H H1) : Keep q H (upd H1 q o) := fun c u n h => by
  rw [upd_ne n]
  exact s c u n h
/-- two tracked things of unlike kinds -/
theorem lst_tup {H : Hp} {a b : Addr} {xs ys : List V} (h : H a = some (.lst xs)) (h' : H b = some (.tup ys)) : b ≠ a := fun e => by
  subst e
  rw [h] at h'
  cases h'
theorem atI_0 {v : V} {xs : List V} : atI (v :: xs) 0 = some v := by
  show atI (v :: xs) ((0 : Nat) : Int) = some v
  exact atI_nat rfl
theorem sl5 {n : Nat} (h : n ≤ 1000) : n ≤ sizeLine := Nat.le_trans h (by decide)
end SpX

set_option Elab.async false
set_option linter.all false
set_option maxRecDepth 100000
set_option maxHeartbeats 4000000
/-! What the laws draw: the pool, an int below a bound, the greatest common divisor. -/
namespace SpX
open PySem PySem.Spec L2
def t_pool (K : PySem.W.Frag) : TS :=
    (tSeq (tAsg (tLst tNil) (gName 1))
    (tSeq (tAsg (tLst tNil) (gName 2))
    (tSeq (tFor (iList K (tVar 0)) (gName 3) ((tIfS (tTest (tOp (rI0 fun i j => .bl (decide (j ≤ i))) (tCB rAbs1 (tCons (tCB rInt1 (tCons (tVar 3) tNil)) tNil)) (tOp (rI CPow fun i j => .int (i ^ j.toNat)) (tC (.int 10)) (tC (.int 18))))) (tDrop (tBM K "list" rAppend (tVar 1) (tCons (tCB rAbs1 (tCons (tCB rInt1 (tCons (tVar 3) tNil)) tNil)) tNil))) (tDrop (tBM K "list" rAppend (tVar 2) (tCons (tCB rAbs1 (tCons (tCB rInt1 (tCons (tVar 3) tNil)) tNil)) tNil))))))
    (tSeq (tIfS (tTest (tOp rEq (tCB rLenA (tCons (tVar 2) tNil)) (tC (.int 0)))) (tDrop (tBM K "list" rAppend (tVar 2) (tCons (tCB rLenA (tCons (tVar 1) tNil)) tNil))) tNext)
    (tRet (tLst (tCons (tVar 1) (tCons (tVar 2) (tCons (tC (.int 0)) tNil)))))))))
def t_take (K : PySem.W.Frag) : TS :=
    (tSeq (tIfS (tTest (tOp (rI0 fun i j => .bl (decide (i < j))) (tVar 1) (tC (.int 2)))) (tRet (tC (.int 0))) tNext)
    (tSeq (tIfS (tTest (tOp (rI0 fun i j => .bl (decide (j < i))) (tCB rLenA (tCons (tOp rIx1 (tVar 0) (tC (.int 0))) tNil)) (tC (.int 0)))) (tSeq (tAsg (tOp rIx1 (tOp rIx1 (tVar 0) (tC (.int 0))) (tC (.int 0))) (gName 5))
    (tSeq (tAsg (tCB rListA (tCons (tSl rSlA (tOp rIx1 (tVar 0) (tC (.int 0))) (tPart (tC (.int 1))) tNoPart) tNil)) (gName 6))
    (tSeq (tIfS (tTest (tOp (rI0 fun i j => .bl (decide (j < i))) (tOp (rI CDivF fun i j => .int (i.fdiv j)) (tVar 5) (tVar 1)) (tC (.int 0)))) (tAsg (tOp rCat (tLst (tCons (tOp (rI CDivF fun i j => .int (i.fdiv j)) (tVar 5) (tVar 1)) tNil)) (tVar 6)) (gName 6)) tNext)
    (tSeq (tAsg (tVar 6) (gSub (tVar 0) (tC (.int 0)) rSetL))
    (tRet (tOp (rI (fun _ j => 0 < j) fun i j => .int (i % j)) (tCB rInt1 (tCons (tVar 5) tNil)) (tVar 1))))))) tNext)
    (tSeq (tAsg (tOp rIx1 (tVar 0) (tC (.int 2))) (gName 2))
    (tSeq (tAsg (tOp (rI0 fun i j => .int (i + j)) (tVar 2) (tC (.int 1))) (gSub (tVar 0) (tC (.int 2)) rSetL))
    (tSeq (tAsg (tOp rIx1 (tOp rIx1 (tVar 0) (tC (.int 1))) (tOp (rI (fun _ j => 0 < j) fun i j => .int (i % j)) (tCB rInt1 (tCons (tOp (rI CDivF fun i j => .int (i.fdiv j)) (tVar 2) (tC (.int 4))) tNil)) (tCB rLenA (tCons (tOp rIx1 (tVar 0) (tC (.int 1))) tNil)))) (gName 3))
    (tSeq (tAsg (tOp (rI (fun _ j => 0 < j) fun i j => .int (i % j)) (tCB rInt1 (tCons (tOp (rI0 fun i j => .int (i + j)) (tOp (rI0 fun i j => .int (i + j)) (tOp (rI IntMulOk fun i j => .int (i * j)) (tVar 3) (tC (.int 48271))) (tOp (rI IntMulOk fun i j => .int (i * j)) (tVar 2) (tC (.int 69621)))) (tC (.int 12345))) tNil)) (tC (.int 2147483647))) (gName 4))
    (tSeq (tAsg (tOp (rI (fun _ j => 0 < j) fun i j => .int (i % j)) (tCB rInt1 (tCons (tOp (rI0 fun i j => .int (i + j)) (tOp (rI0 fun i j => .int (i + j)) (tOp (rI IntMulOk fun i j => .int (i * j)) (tVar 4) (tVar 4)) (tOp (rI IntMulOk fun i j => .int (i * j)) (tVar 2) (tC (.int 40692)))) (tC (.int 7))) tNil)) (tC (.int 2147483399))) (gName 4))
    (tSeq (tAsg (tOp (rI (fun _ j => 0 < j) fun i j => .int (i % j)) (tCB rInt1 (tCons (tOp (rI0 fun i j => .int (i + j)) (tOp (rI0 fun i j => .int (i + j)) (tOp (rI IntMulOk fun i j => .int (i * j)) (tVar 4) (tVar 4)) (tVar 3)) (tC (.int 3))) tNil)) (tC (.int 2147483563))) (gName 4))
    (tRet (tOp (rI (fun _ j => 0 < j) fun i j => .int (i % j)) (tCB rInt1 (tCons (tOp (rI CDivF fun i j => .int (i.fdiv j)) (tVar 4) (tC (.int 7))) tNil)) (tVar 1)))))))))))
def t_integer (K : PySem.W.Frag) : TS :=
    (tRet (tAndV (tCB (rIsi K) (tCons (tVar 0) (tCons (tC (.ty "int")) tNil))) (tNotV (tCB (rIsi K) (tCons (tVar 0) (tCons (tC (.ty "bool")) tNil))))))
def t_common (K : PySem.W.Frag) : TS :=
    (tSeq (tAsg (tCB rAbs1 (tCons (tVar 0) tNil)) (gName 0))
    (tSeq (tAsg (tCB rAbs1 (tCons (tVar 1) tNil)) (gName 1))
    (tSeq (tFor (iRng1 (tCons (tOp (rI0 fun i j => .int (i + j)) (tOp (rI IntMulOk fun i j => .int (i * j)) (tC (.int 2)) (tBits (tVar 1))) (tC (.int 2))) tNil)) (gName 2) ((tSeq (tIfS (tTest (tOp rEq (tVar 1) (tC (.int 0)))) (tRet (tVar 0)) tNext)
    (tSeq (tAsg (tOp (rI (fun _ j => 0 < j) fun i j => .int (i % j)) (tCB rInt1 (tCons (tVar 0) tNil)) (tVar 1)) (gName 3))
    (tSeq (tAsg (tVar 1) (gName 0))
    (tAsg (tVar 3) (gName 1)))))))
    (tRet (tVar 0)))))
/-- a pool: two lists of ints (the second not empty) and a count -/
structure PoolIs (H : Hp) (P g s : Addr) (G S : List Int) (c : Int) : Prop where
  p : H P = some (.lst [.ref g, .ref s, .int c])
  g : H g = some (.lst (G.map V.int))
  s : H s = some (.lst (S.map V.int))
  lg : G.length ≤ 64
  ls : S.length ≤ 64
  ne : S ≠ []
def PoolAt (H : Hp) (P : Addr) : Prop := ∃ g s G S c, PoolIs H P g s G S c
theorem PoolIs.pg {H : Hp} {P g s : Addr} {G S : List Int} {c : Int} (h : PoolIs H P g s G S c) : g ≠ P := fun e => by
  have h1 := h.g
  rw [e, h.p] at h1
  cases G with
  | nil => cases h1
  | cons a r => cases h1
theorem PoolIs.ps {H : Hp} {P g s : Addr} {G S : List Int} {c : Int} (h : PoolIs H P g s G S c) : s ≠ P := fun e => by
  have h1 := h.s
  rw [e, h.p] at h1
  cases S with
  | nil => cases h1
  | cons a r => cases h1
/-- the pool, an int below the bound; nothing but the pool changes -/
def spTake : Sp := fun vs H Q _ => ∃ (P : Addr) (most : Int), vs = [.ref P, .int most] ∧ PoolAt H P ∧ most.natAbs < 2 ^ 8000 ∧
  ∀ (r : Int) (H' : Hp), PoolAt H' P → Keep P H H' → 0 ≤ r → (2 ≤ most → r < most) → (most < 2 → r = 0) → Q (.int r) H'
theorem atI_map {S : List Int} {i : Int} (h0 : 0 ≤ i) (h1 : i < (S.length : Int)) : ∃ z, atI (S.map V.int) i = some (.int z) := by
  obtain ⟨n, rfl⟩ := Int.eq_ofNat_of_zero_le h0
  have hn : n < S.length := by omega
  refine ⟨S[n], ?_⟩
  rw [atI_nat (v := .int S[n]) (by rw [List.getElem?_map, List.getElem?_eq_getElem hn]; rfl)]
theorem small_div {i : Int} {j : Int} (h : 0 < j ∧ j < 1000) : CDivF i j := ⟨by omega, by
  have h1 : j.natAbs < 2 ^ 10 := by omega
  exact Nat.lt_of_lt_of_le (PySem.Flt.log2_lt_of (by decide) h1) (by decide)⟩
theorem pos_div {i : Int} {j : Int} (h0 : 0 < j) (h : j.natAbs < 2 ^ 8000) : CDivF i j := ⟨by omega, Nat.lt_of_lt_of_le (PySem.Flt.log2_lt_of (by decide) h) (by decide)⟩
theorem any_div {i : Int} {j : Int} (h0 : j ≠ 0) (h : j.natAbs < 2 ^ 8000) : CDivF i j := ⟨h0, Nat.lt_of_lt_of_le (PySem.Flt.log2_lt_of (by decide) h) (by decide)⟩
theorem pure_take {K : PySem.W.Frag} (vs : List V) (H : Hp) (Q : VK) (E : XK) (h : spTake vs H Q E) : t_take K { nx := fun _ H' => Q .non H', rt := Q } (start ["pool", "most", "count", "seed", "mixed", "value", "rest"] vs) H := by
  obtain ⟨P, most, rfl, ⟨g, s, G, S, c, hp⟩, hm, k⟩ := h
  have npg := hp.pg
  have nps := hp.ps
  obtain ⟨h1, h2, h3, hG, hS, hS0⟩ := id hp
  show t_take K _ [some (.ref P), some (.int most), none, none, none, none, none] H
  unfold t_take
  have a0 : atI [V.ref g, .ref s, .int c] 0 = some (.ref g) := rfl
  have a1 : atI [V.ref g, .ref s, .int c] 1 = some (.ref s) := rfl
  have a2 : atI [V.ref g, .ref s, .int c] 2 = some (.int c) := rfl
  have ix0 : ixN [V.ref g, .ref s, .int c].length 0 = some 0 := rfl
  have ix2 : ixN [V.ref g, .ref s, .int c].length 2 = some 2 := rfl
  simp only [x_seq, x_if, x_test, x_B, x_op, x_un, x_varS, x_var0, x_c, x_I0, x_I, x_U, x_bl, x_ret, x_next, x_asg, x_name, x_set0, x_setS, x_drop, x_cb, x_cons, x_nil, x_int1, x_abs1, x_max2, x_gcd, x_gsub, x_sl, x_part, x_nopart, x_int, x_call, x_lst, x_tup, x_not, x_and, x_or, x_andV, x_orV, x_notV, x_ifE, x_eqI, x_neI, x_eqB, x_neB, x_tbm, decide_eq_true_eq, List.append_nil, x_ix h1 a0, x_lenA h2, List.length_map]
  refine ite2 (fun hlt => k 0 H ⟨g, s, G, S, c, hp⟩ (Keep.refl _ _) (Int.le_refl _) (fun z => absurd hlt (by omega)) fun _ => rfl) fun hge => ?_
  have hmost : (0 : Int) < most := by omega
  refine ite2 (fun hlen => ?_) (fun hlen => ?_)
  · -- an int of the greats
    obtain ⟨z, G', rfl⟩ : ∃ z G', G = z :: G' := by
      cases G with
      | nil => exact absurd hlen (by simp)
      | cons a r => exact ⟨a, r, rfl⟩
    have b0 : atI ((z :: G').map V.int) 0 = some (.int z) := atI_0
    have ec : cutV ((z :: G').map V.int) (some 1) none = G'.map V.int := by
      unfold cutV
      rw [show (1 : Int) = ((1 : Nat) : Int) from rfl, HT.sIx_nat, HT.sIx_none]
      simp only [List.map_cons, List.length_cons, List.length_map, Nat.add_sub_cancel]
      rw [Nat.min_eq_left (by omega)]
      simp only [List.drop_succ_cons, List.drop_zero, Nat.add_sub_cancel]
      rw [← List.length_map (f := V.int) (as := G'), List.take_length]
    simp only [x_seq, x_if, x_test, x_B, x_op, x_un, x_varS, x_var0, x_c, x_I0, x_I, x_U, x_bl, x_ret, x_next, x_asg, x_name, x_set0, x_setS, x_drop, x_cb, x_cons, x_nil, x_int1, x_abs1, x_max2, x_gcd, x_gsub, x_sl, x_part, x_nopart, x_int, x_call, x_lst, x_tup, x_not, x_and, x_or, x_andV, x_orV, x_notV, x_ifE, x_eqI, x_neI, x_eqB, x_neB, x_tbm, decide_eq_true_eq, List.append_nil, x_ix h2 b0, x_ix h1 a0, x_slA h2, ec]
    intro q hq
    have hq1 : (upd H q (.lst (G'.map V.int))) q = some (.lst (G'.map V.int)) := upd_same
    simp only [x_listA hq1]
    intro q2 hq2
    have e2 : (upd (upd H q (.lst (G'.map V.int))) q2 (.lst (G'.map V.int))) q2 = some (.lst (G'.map V.int)) := upd_same
    have s2 : Same H (upd (upd H q (.lst (G'.map V.int))) q2 (.lst (G'.map V.int))) := Same.new' (Same.new hq) hq2
    generalize (upd (upd H q (.lst (G'.map V.int))) q2 (.lst (G'.map V.int))) = H2 at e2 s2
    -- behind: the rest is stored, the remainder goes back
    have fin : ∀ (r : Addr) (H3 : Hp) (R : List Int), R.length ≤ 64 → H3 r = some (.lst (R.map V.int)) → Same H H3 →
        Q (.int (z % most)) (upd H3 P (.lst [.ref r, .ref s, .int c])) := by
      intro r H3 R hR hr s3
      have hrP : r ≠ P := by
        intro e
        have hP := s3 _ _ h1
        rw [e, hP] at hr
        cases R with
        | nil => cases hr
        | cons a l => cases hr
      refine k _ _ ⟨r, s, R, S, c, ⟨upd_same, ?_, ?_, hR, hS, hS0⟩⟩ (Keep.at (Keep.of s3)) (Int.emod_nonneg _ (by omega)) (fun _ => Int.emod_lt_of_pos _ hmost) (fun z => absurd z (by omega))
      · rw [upd_ne hrP]
        exact hr
      · rw [upd_ne nps]
        exact s3 _ _ h3
    have hP2 := s2 _ _ h1
    refine ⟨pos_div hmost hm, ?_⟩
    refine ite2 (fun hd => ?_) (fun hd => ?_)
    · refine ⟨pos_div hmost hm, by show 1 ≤ sizeLine; decide, fun q3 hq3 => ?_⟩
      have e3 : (upd H2 q3 (.lst [.int (z.fdiv most)])) q3 = some (.lst [.int (z.fdiv most)]) := upd_same
      have s3 : Same H2 (upd H2 q3 (.lst [.int (z.fdiv most)])) := Same.new hq3
      have e4 := s3 _ _ e2
      generalize (upd H2 q3 (.lst [.int (z.fdiv most)])) = H3 at e3 s3 e4
      simp only [x_cat e3 e4 (by rw [List.length_map]; exact sl5 (by simp only [List.length_cons] at hG; simp only [List.length_cons, List.length_nil]; omega))]
      intro q4 hq4
      have e5 : (upd H3 q4 (.lst ([V.int (z.fdiv most)] ++ G'.map V.int))) q4 = some (.lst ((z.fdiv most :: G').map V.int)) := upd_same
      have s5 : Same H (upd H3 q4 (.lst ([V.int (z.fdiv most)] ++ G'.map V.int))) := Same.new' (s2.trans s3) hq4
      generalize (upd H3 q4 (.lst ([V.int (z.fdiv most)] ++ G'.map V.int))) = H5 at e5 s5
      simp only [x_seq, x_if, x_test, x_B, x_op, x_un, x_varS, x_var0, x_c, x_I0, x_I, x_U, x_bl, x_ret, x_next, x_asg, x_name, x_set0, x_setS, x_drop, x_cb, x_cons, x_nil, x_int1, x_abs1, x_max2, x_gcd, x_gsub, x_sl, x_part, x_nopart, x_int, x_call, x_lst, x_tup, x_not, x_and, x_or, x_andV, x_orV, x_notV, x_ifE, x_eqI, x_neI, x_eqB, x_neB, x_tbm, decide_eq_true_eq, List.append_nil, x_setL (s5 _ _ h1) ix0]
      exact ⟨hmost, fin q4 H5 (z.fdiv most :: G') hG e5 s5⟩
    · simp only [x_seq, x_if, x_test, x_B, x_op, x_un, x_varS, x_var0, x_c, x_I0, x_I, x_U, x_bl, x_ret, x_next, x_asg, x_name, x_set0, x_setS, x_drop, x_cb, x_cons, x_nil, x_int1, x_abs1, x_max2, x_gcd, x_gsub, x_sl, x_part, x_nopart, x_int, x_call, x_lst, x_tup, x_not, x_and, x_or, x_andV, x_orV, x_notV, x_ifE, x_eqI, x_neI, x_eqB, x_neB, x_tbm, decide_eq_true_eq, List.append_nil, x_setL hP2 ix0]
      exact ⟨hmost, fin q2 H2 G' (by simp only [List.length_cons] at hG; omega) e2 s2⟩
  · -- an int reckoned of the smalls
    have h4 : (upd H P (.lst [.ref g, .ref s, .int (c + 1)])) P = some (.lst [.ref g, .ref s, .int (c + 1)]) := upd_same
    have h5 : (upd H P (.lst [.ref g, .ref s, .int (c + 1)])) s = some (.lst (S.map V.int)) := by
      rw [upd_ne nps]
      exact h3
    have hp4 : PoolAt (upd H P (.lst [.ref g, .ref s, .int (c + 1)])) P := ⟨g, s, G, S, c + 1, ⟨h4, by rw [upd_ne npg]; exact h2, h5, hG, hS, hS0⟩⟩
    have k4 : Keep P H (upd H P (.lst [.ref g, .ref s, .int (c + 1)])) := Keep.at (Keep.refl _ _)
    have es : ([V.ref g, .ref s, .int c].set 2 (.int (c + 1))) = [V.ref g, .ref s, .int (c + 1)] := rfl
    have b1 : atI [V.ref g, .ref s, .int (c + 1)] 1 = some (.ref s) := rfl
    simp only [x_seq, x_if, x_test, x_B, x_op, x_un, x_varS, x_var0, x_c, x_I0, x_I, x_U, x_bl, x_ret, x_next, x_asg, x_name, x_set0, x_setS, x_drop, x_cb, x_cons, x_nil, x_int1, x_abs1, x_max2, x_gcd, x_gsub, x_sl, x_part, x_nopart, x_int, x_call, x_lst, x_tup, x_not, x_and, x_or, x_andV, x_orV, x_notV, x_ifE, x_eqI, x_neI, x_eqB, x_neB, x_tbm, decide_eq_true_eq, List.append_nil, x_ix h1 a2, x_setL h1 ix2, es]
    generalize (upd H P (.lst [.ref g, .ref s, .int (c + 1)])) = H4 at h4 h5 hp4 k4
    have hSl : (0 : Int) < (S.length : Int) := by
      cases S with
      | nil => exact absurd rfl hS0
      | cons a r => simp only [List.length_cons]; omega
    simp only [x_seq, x_if, x_test, x_B, x_op, x_un, x_varS, x_var0, x_c, x_I0, x_I, x_U, x_bl, x_ret, x_next, x_asg, x_name, x_set0, x_setS, x_drop, x_cb, x_cons, x_nil, x_int1, x_abs1, x_max2, x_gcd, x_gsub, x_sl, x_part, x_nopart, x_int, x_call, x_lst, x_tup, x_not, x_and, x_or, x_andV, x_orV, x_notV, x_ifE, x_eqI, x_neI, x_eqB, x_neB, x_tbm, decide_eq_true_eq, List.append_nil, x_ix h4 b1, x_lenA h5, List.length_map]
    refine ⟨small_div (by decide), hSl, ?_⟩
    obtain ⟨sd, hsd⟩ := atI_map (S := S) (i := (c.fdiv 4) % (S.length : Int)) (Int.emod_nonneg _ (by omega)) (Int.emod_lt_of_pos _ hSl)
    simp only [x_seq, x_if, x_test, x_B, x_op, x_un, x_varS, x_var0, x_c, x_I0, x_I, x_U, x_bl, x_ret, x_next, x_asg, x_name, x_set0, x_setS, x_drop, x_cb, x_cons, x_nil, x_int1, x_abs1, x_max2, x_gcd, x_gsub, x_sl, x_part, x_nopart, x_int, x_call, x_lst, x_tup, x_not, x_and, x_or, x_andV, x_orV, x_notV, x_ifE, x_eqI, x_neI, x_eqB, x_neB, x_tbm, decide_eq_true_eq, List.append_nil, x_ix h5 hsd]
    refine ⟨mul_lit (by decide), mul_lit (by decide), by decide, ?_⟩
    generalize (sd * 48271 + c * 69621 + 12345) = m0
    have hm0 : -(2 ^ 64) < m0 % 2147483647 ∧ m0 % 2147483647 < 2 ^ 64 := by omega
    refine ⟨mul_lit hm0, mul_lit (by decide), by decide, ?_⟩
    generalize (m0 % 2147483647 * (m0 % 2147483647) + c * 40692 + 7) = m1
    have hm1 : -(2 ^ 64) < m1 % 2147483399 ∧ m1 % 2147483399 < 2 ^ 64 := by omega
    refine ⟨mul_lit hm1, by decide, small_div (by decide), hmost, ?_⟩
    exact k _ _ hp4 k4 (Int.emod_nonneg _ (by omega)) (fun _ => Int.emod_lt_of_pos _ hmost) (fun z => absurd z (by omega))

/-- a new pool of the script -/
def spPool (K : PySem.W.Frag) : Sp := fun vs H Q _ => ∃ (a : Addr) (ns : List Int), vs = [.ref a] ∧ SqL K H a (ns.map V.int) ∧ ns.length ≤ 63 ∧ ∀ (P : Addr) (H' : Hp), PoolAt H' P → Same H H' → Q (.ref P) H'
theorem pure_pool {K : PySem.W.Frag} (vs : List V) (H : Hp) (Q : VK) (E : XK) (h : spPool K vs H Q E) : t_pool K { nx := fun _ H' => Q .non H', rt := Q } (start ["script", "greats", "smalls", "cell"] vs) H := by
  obtain ⟨a, ns, rfl, hS, hn, k⟩ := h
  show t_pool K _ [some (.ref a), none, none, none] H
  unfold t_pool
  simp only [x_seq, x_if, x_test, x_B, x_op, x_un, x_varS, x_var0, x_c, x_I0, x_I, x_U, x_bl, x_ret, x_next, x_asg, x_name, x_set0, x_setS, x_drop, x_cb, x_cons, x_nil, x_int1, x_abs1, x_max2, x_gcd, x_gsub, x_sl, x_part, x_nopart, x_int, x_call, x_lst, x_tup, x_not, x_and, x_or, x_andV, x_orV, x_notV, x_ifE, x_eqI, x_neI, x_eqB, x_neB, x_tbm, decide_eq_true_eq, List.append_nil]
  refine ⟨by decide, fun g hg => ⟨by decide, fun s hs => ?_⟩⟩
  have ngs : s ≠ g := fun e => by
    subst e
    rw [upd_same] at hs
    cases hs
  have s0 : Same H (upd (upd H g (.lst [])) s (.lst [])) := Same.new' (Same.new hg) hs
  have hs0 : H s = none := (Same.new hg).free hs
  refine ⟨_, rfl, a, rfl, ⟨_, s0.seq hS⟩, for_list (K := K) (a := a) (xs := ns.map V.int) (fun i σ H' => ∃ (G S : List Int) (cl : Option V), σ = [some (.ref a), some (.ref g), some (.ref s), cl] ∧ H' g = some (.lst (G.map V.int)) ∧ H' s = some (.lst (S.map V.int)) ∧ G.length ≤ i ∧ S.length ≤ i ∧ Same H H')
    ⟨[], [], none, rfl, by rw [upd_ne ngs.symm, upd_same]; rfl, by rw [upd_same]; rfl, Nat.le_refl _, Nat.le_refl _, s0⟩ (fun i σ H' _ ⟨_, _, _, _, _, _, _, _, s1⟩ => s1.seq hS) ?_ ?_⟩
  · rintro i y σ H' hi ⟨G, S, cl, rfl, h1, h2, l1, l2, s1⟩
    have hil : i < ns.length := by
      have := (List.getElem?_eq_some_iff.mp hi).1
      rwa [List.length_map] at this
    obtain ⟨z, rfl⟩ : ∃ z, y = V.int z := by
      rw [List.getElem?_map] at hi
      cases e : ns[i]? with
      | none => rw [e] at hi; cases hi
      | some z => rw [e] at hi; exact ⟨z, (Option.some.inj hi).symm⟩
    have ha : ∀ (l : List Int) (b : Int), l.map V.int ++ [V.int b] = (l ++ [b]).map V.int := fun l b => by rw [List.map_append]; rfl
    simp only [x_seq, x_if, x_test, x_B, x_op, x_un, x_varS, x_var0, x_c, x_I0, x_I, x_U, x_bl, x_ret, x_next, x_asg, x_name, x_set0, x_setS, x_drop, x_cb, x_cons, x_nil, x_int1, x_abs1, x_max2, x_gcd, x_gsub, x_sl, x_part, x_nopart, x_int, x_call, x_lst, x_tup, x_not, x_and, x_or, x_andV, x_orV, x_notV, x_ifE, x_eqI, x_neI, x_eqB, x_neB, x_tbm, decide_eq_true_eq, List.append_nil]
    refine ⟨⟨by decide, by decide, by decide⟩, ?_⟩
    refine ite2 (fun _ => ?_) (fun _ => ?_)
    · refine ⟨ty_lst h1, ?_⟩
      simp only [x_append h1 (by rw [List.length_map]; exact Nat.lt_of_le_of_lt l1 (Nat.lt_of_lt_of_le (show i < 1000 by omega) (by decide)))]
      refine ⟨G ++ [if z < 0 then -z else z], S, _, rfl, by rw [upd_same, ha], by rw [upd_ne ngs]; exact h2, by rw [List.length_append]; simp; omega, by omega, fun b o e => ?_⟩
      rw [upd_ne (ne_of_none e hg)]
      exact s1 b o e
    · refine ⟨ty_lst h2, ?_⟩
      simp only [x_append h2 (by rw [List.length_map]; exact Nat.lt_of_le_of_lt l2 (Nat.lt_of_lt_of_le (show i < 1000 by omega) (by decide)))]
      refine ⟨G, S ++ [if z < 0 then -z else z], _, rfl, by rw [upd_ne ngs.symm]; exact h1, by rw [upd_same, ha], by omega, by rw [List.length_append]; simp; omega, fun b o e => ?_⟩
      rw [upd_ne (ne_of_none e hs0)]
      exact s1 b o e
  · rintro σ H' ⟨G, S, cl, rfl, h1, h2, l1, l2, s1⟩
    rw [List.length_map] at l1 l2
    -- the pool's own list
    have fin : ∀ (H2 : Hp) (S2 : List Int), H2 g = some (.lst (G.map V.int)) → H2 s = some (.lst (S2.map V.int)) → Same H H2 → S2 ≠ [] → S2.length ≤ 64 → ∀ p, H2 p = none → Q (.ref p) (upd H2 p (.lst [.ref g, .ref s, .int 0])) := by
      intro H2 S2 e1 e2 s2 ne l p hp
      refine k p _ ⟨g, s, G, S2, 0, ⟨upd_same, ?_, ?_, by omega, l, ne⟩⟩ (Same.new' s2 hp)
      · rw [upd_ne (ne_of_none e1 hp)]
        exact e1
      · rw [upd_ne (ne_of_none e2 hp)]
        exact e2
    simp only [x_seq, x_if, x_test, x_B, x_op, x_un, x_varS, x_var0, x_c, x_I0, x_I, x_U, x_bl, x_ret, x_next, x_asg, x_name, x_set0, x_setS, x_drop, x_cb, x_cons, x_nil, x_int1, x_abs1, x_max2, x_gcd, x_gsub, x_sl, x_part, x_nopart, x_int, x_call, x_lst, x_tup, x_not, x_and, x_or, x_andV, x_orV, x_notV, x_ifE, x_eqI, x_neI, x_eqB, x_neB, x_tbm, decide_eq_true_eq, List.append_nil, x_lenA h2, x_lenA h1, List.length_map]
    refine ite2 (fun hz => ?_) (fun hz => ?_)
    · refine ⟨ty_lst h2, ?_⟩
      simp only [x_append h2 (by rw [List.length_map]; exact Nat.lt_of_le_of_lt l2 (Nat.lt_of_lt_of_le (show ns.length < 1000 by omega) (by decide)))]
      have hS0 : S = [] := by
        cases S with
        | nil => rfl
        | cons a r => simp only [List.length_cons] at hz; omega
      subst hS0
      refine ⟨(by show 3 ≤ sizeLine; decide), fin _ [(G.length : Int)] (by rw [upd_ne ngs.symm]; exact h1) (by rw [upd_same]; rfl) (fun b o e => ?_) (by simp) (by simp)⟩
      rw [upd_ne (ne_of_none e hs0)]
      exact s1 b o e
    · exact ⟨(by show 3 ≤ sizeLine; decide), fin _ S h1 h2 s1 (fun e => hz (by subst e; rfl)) (by omega)⟩

/-- an int is told as one -/
def spInteger : Sp := fun vs H Q _ => ∃ i : Int, vs = [.int i] ∧ Q (.bl true) H
theorem pure_integer {K : PySem.W.Frag} (vs : List V) (H : Hp) (Q : VK) (E : XK) (h : spInteger vs H Q E) : t_integer K { nx := fun _ H' => Q .non H', rt := Q } (start ["thing"] vs) H := by
  obtain ⟨i, rfl, k⟩ := h
  show t_integer K _ [some (.int i)] H
  unfold t_integer
  simp only [x_seq, x_if, x_test, x_B, x_op, x_un, x_varS, x_var0, x_c, x_I0, x_I, x_U, x_bl, x_ret, x_next, x_asg, x_name, x_set0, x_setS, x_drop, x_cb, x_cons, x_nil, x_int1, x_abs1, x_max2, x_gcd, x_gsub, x_sl, x_part, x_nopart, x_int, x_call, x_lst, x_tup, x_not, x_and, x_or, x_andV, x_orV, x_notV, x_ifE, x_eqI, x_neI, x_eqB, x_neB, x_tbm, decide_eq_true_eq, List.append_nil]
  refine ⟨_, _, .type "int", .type "int", true, rfl, .ty _, .base (.int _), kit_ty (by decide +kernel), true, rfl, ?_⟩
  rw [if_pos rfl]
  refine ⟨_, _, .type "int", .type "bool", false, rfl, .ty _, .base (.int _), kit_ty (by decide +kernel), false, rfl, ?_⟩
  exact k

/-! ### the greatest common divisor, by Euclid with turns enough -/
theorem emod_half {x y : Int} (hy : 0 < y) (h : y < x) : 2 * (x % y) < x := by
  have h1 : x % y < y := Int.emod_lt_of_pos _ hy
  have h2 : y * (x / y) + x % y = x := Int.mul_ediv_add_emod x y
  have h3 : 1 ≤ x / y := by
    have := Int.le_ediv_of_mul_le (a := 1) hy (by omega : 1 * y ≤ x)
    exact this
  have h4 : y * 1 ≤ y * (x / y) := Int.mul_le_mul_of_nonneg_left h3 (by omega)
  omega
/-- what holds behind i turns: b0 the second number at the start -/
def Eu (a0 b0 : Int) (i : Nat) (x y : Int) : Prop := 0 ≤ x ∧ 0 ≤ y ∧ Nat.gcd x.natAbs y.natAbs = Nat.gcd a0.natAbs b0.natAbs ∧
  ((i % 2 = 0 ∧ 2 ^ (i / 2) * y ≤ b0) ∨ (i % 2 = 1 ∧ 2 ^ (i / 2) * x ≤ b0 ∧ y < x))
theorem Eu.turn {a0 b0 x y : Int} {i : Nat} (h : Eu a0 b0 i x y) (hy : y ≠ 0) : Eu a0 b0 (i + 1) y (x % y) := by
  obtain ⟨h1, h2, h3, h4⟩ := h
  have hp : 0 < y := by omega
  have n1 := Int.emod_nonneg x hy
  have n2 := Int.emod_lt_of_pos x hp
  refine ⟨h2, n1, ?_, ?_⟩
  · rw [← h3]
    have e : (x % y).natAbs = x.natAbs % y.natAbs := by
      have e1 : (x % y).natAbs = (x.natAbs % y.natAbs) := by
        rw [Int.natAbs_emod_of_nonneg h1]
      exact e1
    rw [e, Nat.gcd_comm y.natAbs, ← Nat.gcd_rec, Nat.gcd_comm]
  · rcases h4 with ⟨p, q⟩ | ⟨p, q, r⟩
    · right
      refine ⟨by omega, ?_, n2⟩
      rw [show (i + 1) / 2 = i / 2 by omega]
      exact q
    · left
      refine ⟨by omega, ?_⟩
      have e : (i + 1) / 2 = i / 2 + 1 := by omega
      rw [e, Int.pow_succ, Int.mul_assoc]
      have hh := emod_half hp r
      exact Int.le_trans (Int.mul_le_mul_of_nonneg_left (by omega) (Int.le_of_lt (Int.pow_pos (by decide)))) q
theorem Eu.end_ {a0 b0 x y : Int} {n B : Nat} (h : Eu a0 b0 n x y) (hn : n = 2 * B + 2) (hb : b0 < 2 ^ B) : y = 0 := by
  obtain ⟨h1, h2, h3, h4⟩ := h
  subst hn
  rcases h4 with ⟨p, q⟩ | ⟨p, q, r⟩
  · rw [show (2 * B + 2) / 2 = B + 1 by omega, Int.pow_succ] at q
    by_cases hy : y = 0
    · exact hy
    · exfalso
      have hp : (0 : Int) < 2 ^ B := Int.pow_pos (by decide)
      have h5 : 2 ^ B * 2 * 1 ≤ 2 ^ B * 2 * y := Int.mul_le_mul_of_nonneg_left (by omega) (by omega)
      omega
  · omega
theorem bits_lt (b : Int) (h : 0 ≤ b) : b < 2 ^ (Builtin.Int.intBits b) := by
  unfold Builtin.Int.intBits
  split
  · rename_i hz
    have : b = 0 := by simpa using hz
    subst this
    decide
  · rename_i hz
    have h1 : b.natAbs < 2 ^ (b.natAbs.log2 + 1) := Nat.lt_log2_self
    have h2 : (b.natAbs : Int) < ((2 ^ (b.natAbs.log2 + 1) : Nat) : Int) := Int.ofNat_lt.mpr h1
    rw [Int.natAbs_of_nonneg h] at h2
    simpa using h2
theorem bits_small {b : Int} (h : b.natAbs < 2 ^ 8000) : Builtin.Int.intBits b ≤ 8000 := by
  unfold Builtin.Int.intBits
  split
  · omega
  · have := PySem.Flt.log2_lt_of (by decide) h
    omega
/-- gcd -/
def spCommon : Sp := fun vs H Q _ => ∃ a b : Int, vs = [.int a, .int b] ∧ b.natAbs < 2 ^ 8000 ∧ Q (.int ((Nat.gcd a.natAbs b.natAbs : Nat) : Int)) H
theorem abs_if (a : Int) : (if a < 0 then -a else a) = (a.natAbs : Int) := by split <;> omega
theorem pure_common {K : PySem.W.Frag} (vs : List V) (H : Hp) (Q : VK) (E : XK) (h : spCommon vs H Q E) : t_common K { nx := fun _ H' => Q .non H', rt := Q } (start ["one", "two", "k", "rest"] vs) H := by
  obtain ⟨a, b, rfl, hb, k⟩ := h
  show t_common K _ [some (.int a), some (.int b), none, none] H
  unfold t_common
  simp only [x_seq, x_if, x_test, x_B, x_op, x_un, x_varS, x_var0, x_c, x_I0, x_I, x_U, x_bl, x_ret, x_next, x_asg, x_name, x_set0, x_setS, x_drop, x_cb, x_cons, x_nil, x_int1, x_abs1, x_max2, x_gcd, x_gsub, x_sl, x_part, x_nopart, x_int, x_call, x_lst, x_tup, x_not, x_and, x_or, x_andV, x_orV, x_notV, x_ifE, x_eqI, x_neI, x_eqB, x_neB, x_tbm, decide_eq_true_eq, List.append_nil, abs_if]
  have hB := bits_small (b := (b.natAbs : Int)) (by simpa using hb)
  have hlt := bits_lt (b.natAbs : Int) (by omega)
  refine ⟨_, rfl, _, rfl, _, _, rfl, rfl, mul_lit' (by decide), _, _, rfl, rfl, _, rfl, by omega, by omega, ?_⟩
  rw [show (2 * (Builtin.Int.intBits (b.natAbs : Int) : Int) + 2).toNat = 2 * Builtin.Int.intBits (b.natAbs : Int) + 2 by omega]
  refine for_range (lo := 0) (fun i σ H' => H' = H ∧ ∃ (x y : Int) (u v : Option V), σ = [some (.int x), some (.int y), u, v] ∧ Eu (a.natAbs : Int) (b.natAbs : Int) i x y) ⟨rfl, _, _, none, none, rfl, by omega, by omega, rfl, .inl ⟨rfl, by simp⟩⟩ ?_ ?_
  · rintro i σ H' hi ⟨rfl, x, y, u, v, rfl, hE⟩
    simp only [x_seq, x_if, x_test, x_B, x_op, x_un, x_varS, x_var0, x_c, x_I0, x_I, x_U, x_bl, x_ret, x_next, x_asg, x_name, x_set0, x_setS, x_drop, x_cb, x_cons, x_nil, x_int1, x_abs1, x_max2, x_gcd, x_gsub, x_sl, x_part, x_nopart, x_int, x_call, x_lst, x_tup, x_not, x_and, x_or, x_andV, x_orV, x_notV, x_ifE, x_eqI, x_neI, x_eqB, x_neB, x_tbm, decide_eq_true_eq, List.append_nil]
    refine ite2 (fun hy => ?_) (fun hy => ?_)
    · have h3 := hE.2.2.1
      have h1 := hE.1
      rw [hy] at h3
      simp only [Int.natAbs_zero, Nat.gcd_zero_right, Int.natAbs_natCast] at h3
      rw [show x = ((Nat.gcd a.natAbs b.natAbs : Nat) : Int) by rw [← h3]; omega]
      exact k
    · have := hE.2.1
      exact ⟨by omega, trivial, _, _, _, _, rfl, hE.turn hy⟩
  · rintro σ H' ⟨rfl, x, y, u, v, rfl, hE⟩
    have hy := hE.end_ rfl hlt
    have h3 := hE.2.2.1
    have h1 := hE.1
    rw [hy] at h3
    simp only [Int.natAbs_zero, Nat.gcd_zero_right, Int.natAbs_natCast] at h3
    simp only [x_seq, x_if, x_test, x_B, x_op, x_un, x_varS, x_var0, x_c, x_I0, x_I, x_U, x_bl, x_ret, x_next, x_asg, x_name, x_set0, x_setS, x_drop, x_cb, x_cons, x_nil, x_int1, x_abs1, x_max2, x_gcd, x_gsub, x_sl, x_part, x_nopart, x_int, x_call, x_lst, x_tup, x_not, x_and, x_or, x_andV, x_orV, x_notV, x_ifE, x_eqI, x_neI, x_eqB, x_neB, x_tbm, decide_eq_true_eq, List.append_nil]
    rw [show x = ((Nat.gcd a.natAbs b.natAbs : Nat) : Int) by rw [← h3]; omega]
    exact k
end SpX

set_option Elab.async false
set_option linter.all false
set_option maxRecDepth 100000
set_option maxHeartbeats 2000000
/-! Ratios: how one stands on the heap, what a def promises of it. -/
namespace SpX
open PySem PySem.Spec L2
abbrev RF (t b : Int) : List (Str × V) := [("top", .int t), ("bottom", .int b)]
/-- a ratio t / b stands at p -/
def RatAt (C : Addr) (H : Hp) (p : Addr) (t b : Int) : Prop := ∃ dx, H p = some (.ins C dx (RF t b))
theorem RatAt.same {C : Addr} {H H' : Hp} {p : Addr} {t b : Int} (h : RatAt C H p t b) (s : Same H H') : RatAt C H' p t b := by
  obtain ⟨dx, e⟩ := h
  exact ⟨dx, s _ _ e⟩
/-- isinstance of an int or of a ratio -/
inductive IsA (C : Addr) (H : Hp) : List V → Bool → Prop where
  | ii (i : Int) : IsA C H [.int i, .ty "int"] true
  | ic (i : Int) : IsA C H [.int i, .ref C] false
  | ri {p dx : Addr} {fs : List (Str × V)} (h : H p = some (.ins C dx fs)) : IsA C H [.ref p, .ty "int"] false
  | rc {p dx : Addr} {fs : List (Str × V)} (h : H p = some (.ins C dx fs)) : IsA C H [.ref p, .ref C] true
def rIsA (C : Addr) : List V → Hp → VK → Prop := fun xs H Q => ∃ b, IsA C H xs b ∧ Q (.bl b) H
structure IsaOk (K : PySem.W.Frag) (C : Addr) : Prop where
  cl : Cls K C
  ha : PySem.W.findIn K (.ref C) "__class__" = some (some (.builtin "object.__class__"))
  hn : PySem.W.specialIn K (.builtin "object.__class__") "__get__" = some (some (.builtin "getset_descriptor.__get__"))
  ht : PySem.W.takesIn K (.builtin "object.__class__") = some true
  hm : PySem.W.mroIn K C (.type "object") = some true
  k0 : PySem.W.kitOne K (.ref C) (.type "int") = some false
  k1 : PySem.W.kitOne K (.type "int") (.ref C) = some false
theorem kit_self {K : PySem.W.Frag} {C : Addr} : PySem.W.kitOne K (.ref C) (.ref C) = some true := by
  unfold PySem.W.kitOne
  rw [if_pos (beq_self_eq_true _)]
theorem call_isA {X : Cx} {C : Addr} (T : IsaOk X.K C) : CallR X (.builtin "isinstance") (rIsA C) := by
  intro pins s σ H xs us Q I r h
  obtain ⟨b, h, q⟩ := h
  cases h with
  | ii i => exact call_isi pins s σ H _ us Q I r ⟨_, _, _, _, _, rfl, .ty _, .base (.int _), kit_ty (by decide +kernel), q⟩
  | ic i => exact call_isi pins s σ H _ us Q I r ⟨_, _, _, _, _, rfl, .own _, .base (.int _), T.k1, q⟩
  | ri e => exact call_isi pins s σ H _ us Q I r ⟨_, _, _, _, _, rfl, .ty _, .base (.ins e T.cl T.ha T.hn T.ht T.hm), T.k0, q⟩
  | rc e => exact call_isi pins s σ H _ us Q I r ⟨_, _, _, _, _, rfl, .own _, .base (.ins e T.cl T.ha T.hn T.ht T.hm), kit_self, q⟩
/-- e.f of an instance of C -/
def rFld (C : Addr) (f : Str) : V → Hp → VK → Prop := fun x H Q => ∃ a dx fs v, x = .ref a ∧ H a = some (.ins C dx fs) ∧ fs.lookup f = some v ∧ Q v H
theorem pe_fldA {X : Cx} {C : Addr} {e : Expr} {f : Str} {pos : Pos} {ta : TE} (he : PE X e ta) (c : Cls X.K C) (n : NoAttr X.K C f) (hb : attributeBase e f X.env (eval e X.env) = eval e X.env) : PE X (.Attribute e f pos) (tUn (rFld C f) ta) := by
  refine ⟨fun pins s σ H Q I h => ?_⟩
  refine attr_of hb (thn (he.run pins s σ H _ I h) fun u s1 hh => ?_)
  obtain ⟨x, H1, I1, rx, a, dx, fs, v, ex, ea, l, q⟩ := hh
  subst ex
  obtain rfl : u = Value.ref a := rx
  exact getattr_ok I1 ea c n l fun u' s2 I2 ru => ⟨v, H1, I2, ru, q⟩
section
variable {D : Ends} {σ : L2.St} {H : Hp} {Q : VK} {C p q dx dy : Addr} {t b u c i : Int} {sp : Sp} {E : XK} {ta tb : TE} {f : Str}
theorem x_top (h : H p = some (.ins C dx (RF t b))) : rFld C "top" (.ref p) H Q = Q (.int t) H := propext (Iff.intro
  (fun ⟨_, _, _, _, e1, h1, h2, q⟩ => by
    cases e1
    rw [h] at h1
    cases h1
    cases h2
    exact q)
  (fun q => ⟨_, _, _, _, rfl, h, rfl, q⟩))
theorem bottom_ne : (("bottom" : Str) == "top") = false := by decide +kernel
theorem look_bottom : List.lookup ("bottom" : Str) (RF t b) = some (.int b) := by
  simp only [RF, List.lookup, bottom_ne, beq_self_eq_true]
theorem x_bot (h : H p = some (.ins C dx (RF t b))) : rFld C "bottom" (.ref p) H Q = Q (.int b) H := propext (Iff.intro
  (fun ⟨_, _, _, _, e1, h1, h2, q⟩ => by
    cases e1
    rw [h] at h1
    cases h1
    rw [look_bottom] at h2
    cases h2
    exact q)
  (fun q => ⟨_, _, _, _, rfl, h, look_bottom, q⟩))
theorem x_isII : rIsA C [.int i, .ty "int"] H Q = Q (.bl true) H := propext (Iff.intro (fun ⟨_, h, q⟩ => by cases h; exact q) fun q => ⟨_, .ii _, q⟩)
theorem x_isIC : rIsA C [.int i, .ref C] H Q = Q (.bl false) H := propext (Iff.intro (fun ⟨_, h, q⟩ => by cases h; exact q) fun q => ⟨_, .ic _, q⟩)
theorem x_isRI {fs : List (Str × V)} (h : H p = some (.ins C dx fs)) : rIsA C [.ref p, .ty "int"] H Q = Q (.bl false) H := propext (Iff.intro (fun ⟨_, h, q⟩ => by cases h; exact q) fun q => ⟨_, .ri h, q⟩)
theorem x_isRC {fs : List (Str × V)} (h : H p = some (.ins C dx fs)) : rIsA C [.ref p, .ref C] H Q = Q (.bl true) H := propext (Iff.intro (fun ⟨_, h, q⟩ => by cases h; exact q) fun q => ⟨_, .rc h, q⟩)
theorem x_make {dvs : List V} {t : TA} : tMake C sp dvs E t σ H Q = t σ H (fun vs H1 => ∀ x dx, H1 x = none → H1 dx = none → dx ≠ x →
  sp (.ref x :: (vs ++ dvs)) (upd (upd H1 dx (.own x)) x (.ins C dx [])) (fun v H2 => v = .non ∧ Q (.ref x) H2) E) := rfl
theorem x_own2 {fs gs : List (Str × V)} (h : H p = some (.ins C dx fs)) (h' : H q = some (.ins C dy gs)) : rOwn2 C sp E (.ref p) (.ref q) H Q = sp [.ref p, .ref q] H Q E := propext (Iff.intro
  (fun ⟨_, _, _, _, _, _, e1, e2, _, _, q⟩ => by cases e1; cases e2; exact q) (fun q => ⟨_, _, _, _, _, _, rfl, rfl, h, h', q⟩))
theorem x_ownI {fs : List (Str × V)} (h : H p = some (.ins C dx fs)) : rOwnI C sp E (.ref p) (.int i) H Q = sp [.ref p, .int i] H Q E := propext (Iff.intro
  (fun ⟨_, _, _, _, e1, e2, _, q⟩ => by cases e1; cases e2; exact q) (fun q => ⟨_, _, _, _, rfl, rfl, h, q⟩))
theorem x_ownR {fs : List (Str × V)} (h : H p = some (.ins C dx fs)) : rOwnR C sp E (.int i) (.ref p) H Q = sp [.ref p, .int i] H Q E := propext (Iff.intro
  (fun ⟨_, _, _, _, e1, e2, _, q⟩ => by cases e1; cases e2; exact q) (fun q => ⟨_, _, _, _, rfl, rfl, h, q⟩))
theorem x_ownU {fs : List (Str × V)} (h : H p = some (.ins C dx fs)) : rOwnU C sp E (.ref p) H Q = sp [.ref p] H Q E := propext (Iff.intro
  (fun ⟨_, _, _, e1, _, q⟩ => by cases e1; exact q) (fun q => ⟨_, _, _, rfl, h, q⟩))
theorem x_ownAbs {fs : List (Str × V)} (h : H p = some (.ins C dx fs)) : rOwnAbs C sp E [.ref p] H Q = sp [.ref p] H Q E := propext (Iff.intro
  (fun ⟨_, _, _, e1, _, q⟩ => by cases e1; exact q) (fun q => ⟨_, _, _, rfl, h, q⟩))
theorem x_ownBool {fs : List (Str × V)} (h : H p = some (.ins C dx fs)) : rOwnBool C sp E [.ref p] H Q = sp [.ref p] H (fun v H' => ∃ b, v = .bl b ∧ Q (.bl b) H') E := propext (Iff.intro
  (fun ⟨_, _, _, e1, _, q⟩ => by cases e1; exact q) (fun q => ⟨_, _, _, rfl, h, q⟩))
theorem x_meth {m : Str} {dvs : List V} {t : TA} : tMeth C m sp dvs E ta t σ H Q = ta σ H (fun x H1 => ∃ a dx fs, x = .ref a ∧ H1 a = some (.ins C dx fs) ∧ fs.lookup m = none ∧ t σ H1 fun vs H2 => sp (x :: (vs ++ dvs)) H2 Q E) := rfl
theorem x_bool1 : rBool1 [.int i] H Q = Q (.bl (i != 0)) H := by
  unfold rBool1
  simp
end
/-! ### numbers in their lowest terms -/
/-- t / b is x / y in lowest terms -/
structure Norm (t b x y : Int) : Prop where
  pos : 0 < b
  eq : t * y = x * b
  cop : Nat.gcd t.natAbs b.natAbs = 1
theorem Norm.cross {t b x y x' y' : Int} (h : Norm t b x y) (hy : y ≠ 0) (e : x * y' = x' * y) : Norm t b x' y' := by
  refine ⟨h.pos, ?_, h.cop⟩
  have h1 := h.eq
  refine Int.eq_of_mul_eq_mul_right hy ?_
  calc t * y' * y = (t * y) * y' := by rw [Int.mul_assoc, Int.mul_comm y' y, Int.mul_assoc]
    _ = (x * b) * y' := by rw [h1]
    _ = (x * y') * b := by rw [Int.mul_assoc, Int.mul_comm b y', Int.mul_assoc]
    _ = (x' * y) * b := by rw [e]
    _ = x' * b * y := by rw [Int.mul_assoc, Int.mul_comm y b, Int.mul_assoc]
theorem Norm.le {t b x y : Int} (h : Norm t b x y) (hy : y ≠ 0) : t.natAbs ≤ x.natAbs ∧ b.natAbs ≤ y.natAbs := by
  have e : t.natAbs * y.natAbs = x.natAbs * b.natAbs := by
    rw [← Int.natAbs_mul, ← Int.natAbs_mul, h.eq]
  have c : Nat.Coprime t.natAbs b.natAbs := h.cop
  have hy' : 0 < y.natAbs := by omega
  constructor
  · have d : t.natAbs ∣ x.natAbs * b.natAbs := ⟨_, e.symm⟩
    have d' := Nat.Coprime.dvd_of_dvd_mul_right c d
    by_cases hx : x.natAbs = 0
    · rw [hx, Nat.zero_mul] at e
      have := Nat.mul_eq_zero.mp e
      omega
    · exact Nat.le_of_dvd (by omega) d'
  · have d : b.natAbs ∣ t.natAbs * y.natAbs := ⟨_, by rw [e, Nat.mul_comm]⟩
    exact Nat.le_of_dvd hy' (Nat.Coprime.dvd_of_dvd_mul_left c.symm d)
/-- what the constructor stores is in lowest terms: g the common divisor with the sign of y -/
theorem norm_mk {x y g : Int} (hy : y ≠ 0) (hg : g = (if y < 0 then -((Nat.gcd x.natAbs y.natAbs : Nat) : Int) else ((Nat.gcd x.natAbs y.natAbs : Nat) : Int))) : g ≠ 0 ∧ g.natAbs = Nat.gcd x.natAbs y.natAbs ∧ Norm (x.fdiv g) (y.fdiv g) x y := by
  have hG : 0 < Nat.gcd x.natAbs y.natAbs := Nat.gcd_pos_of_pos_right _ (by omega)
  have dx : ((Nat.gcd x.natAbs y.natAbs : Nat) : Int) ∣ x := Int.ofNat_dvd_left.mpr (Nat.gcd_dvd_left _ _)
  have dy : ((Nat.gcd x.natAbs y.natAbs : Nat) : Int) ∣ y := Int.ofNat_dvd_left.mpr (Nat.gcd_dvd_right _ _)
  generalize hn : Nat.gcd x.natAbs y.natAbs = n at hg hG dx dy
  have gn : g ≠ 0 := by subst hg; split <;> omega
  have ga : g.natAbs = n := by subst hg; split <;> omega
  have gx : g ∣ x := by
    subst hg
    split
    · exact Int.neg_dvd.mpr dx
    · exact dx
  have gy : g ∣ y := by
    subst hg
    split
    · exact Int.neg_dvd.mpr dy
    · exact dy
  obtain ⟨a, rfl⟩ := gx
  obtain ⟨c, rfl⟩ := gy
  refine ⟨gn, ga, ?_⟩
  rw [Int.mul_fdiv_cancel_left _ gn, Int.mul_fdiv_cancel_left _ gn]
  refine ⟨?_, ?_, ?_⟩
  · rw [Int.lt_iff_le_and_ne]
    by_cases hneg : g * c < 0
    · rw [if_pos hneg] at hg
      have : g < 0 := by omega
      have hc : 0 < c := Int.pos_of_mul_neg_left (by rw [Int.mul_comm]; exact hneg) this
      exact ⟨by omega, by omega⟩
    · rw [if_neg hneg] at hg
      have : 0 < g := by omega
      have hc : 0 ≤ c := Int.nonneg_of_mul_nonneg_right (by omega) this
      have : c ≠ 0 := fun e => hy (by rw [e, Int.mul_zero])
      exact ⟨by omega, by omega⟩
  · rw [← Int.mul_assoc, Int.mul_comm a g]
  · rw [Int.natAbs_mul, Int.natAbs_mul, Nat.gcd_mul_left, ga] at hn
    have h2 : n * Nat.gcd a.natAbs c.natAbs = n * 1 := by rw [hn, Nat.mul_one]
    exact Nat.eq_of_mul_eq_mul_left hG h2
end SpX

set_option Elab.async false
set_option linter.all false
set_option maxRecDepth 100000
set_option maxHeartbeats 2000000
namespace SpX
open PySem PySem.Spec L2
theorem x_never {D : Ends} {σ : L2.St} {H : Hp} : tNever D σ H = False := rfl
def tRaise0 (Z : Addr) (E : XK) : TS := fun _ _ H => E (.ref Z) none H
/-! ### sizes -/
/-- below two to the n -/
def Bd (n : Nat) (a : Int) : Prop := a.natAbs < 2 ^ n
theorem Bd.mono {m n : Nat} {a : Int} (h : Bd m a) (l : m ≤ n) : Bd n a := Nat.lt_of_lt_of_le h (Nat.pow_le_pow_right (by decide) l)
theorem Bd.mul {m n : Nat} {a b : Int} (h : Bd m a) (h' : Bd n b) : Bd (m + n) (a * b) := by
  unfold Bd at *
  rw [Int.natAbs_mul, Nat.pow_add]
  exact Nat.mul_lt_mul_of_lt_of_le h (Nat.le_of_lt h') (Nat.pos_of_ne_zero (by have := Nat.pow_pos (n := n) (show 0 < 2 by decide); omega))
theorem Bd.add {n : Nat} {a b : Int} (h : Bd n a) (h' : Bd n b) : Bd (n + 1) (a + b) := by
  unfold Bd at *
  rw [Nat.pow_succ]
  have := Int.natAbs_add_le a b
  omega
theorem Bd.neg {n : Nat} {a : Int} (h : Bd n a) : Bd n (-a) := by
  unfold Bd at *
  rwa [Int.natAbs_neg]
theorem Bd.sub {n : Nat} {a b : Int} (h : Bd n a) (h' : Bd n b) : Bd (n + 1) (a - b) := by
  rw [Int.sub_eq_add_neg]
  exact h.add h'.neg
theorem Bd.abs {n : Nat} {a : Int} (h : Bd n a) : Bd n (if a < 0 then -a else a) := by
  split
  · exact h.neg
  · exact h
theorem Bd.of {n : Nat} {a b : Int} (h : Bd n a) (l : b.natAbs ≤ a.natAbs) : Bd n b := Nat.lt_of_le_of_lt l h
theorem Bd.one {n : Nat} (h : 0 < n) : Bd n 1 := Nat.one_lt_two_pow (by omega)
theorem Bd.ok {m n : Nat} {a b : Int} (h : Bd m a) (h' : Bd n b) (h0 : 0 < m) (h1 : 0 < n) (l : m + n ≤ 1000000) : IntMulOk a b := mul_wide h h' h0 h1 l
theorem Bd.ok2 {a b : Int} (h : Bd 2000 a) (h' : Bd 2000 b) : IntMulOk a b := mul_wide h h' (by decide) (by decide) (by decide)
/-! ### promises -/
/-- t / b is in lowest terms -/
structure Low (t b : Int) : Prop where
  pos : 0 < b
  cop : Nat.gcd t.natAbs b.natAbs = 1
theorem Norm.low {t b x y : Int} (h : Norm t b x y) : Low t b := ⟨h.pos, h.cop⟩
theorem Low.int {i : Int} : Low i 1 := ⟨by decide, by simp⟩
/-- a number: an int, or a ratio t / b -/
inductive NumAt (C : Addr) (H : Hp) : V → Int → Int → Prop
  | int (i : Int) : NumAt C H (.int i) i 1
  | rat {p : Addr} {t b : Int} (h : RatAt C H p t b) : NumAt C H (.ref p) t b
/-- the constructor: x / y in lowest terms, or the error at Z -/
def spInit (C Z : Addr) : Sp := fun vs H Q E => ∃ (p dx : Addr) (x y : Int), vs = [.ref p, .int x, .int y] ∧ H p = some (.ins C dx []) ∧ Bd 8000 x ∧ Bd 8000 y ∧
  (y = 0 → E (.ref Z) none H) ∧ (y ≠ 0 → ∀ t b, Norm t b x y → Q .non (upd H p (.ins C dx (RF t b))))
/-- what comes back is a new ratio, x / y in lowest terms -/
def Gives (C : Addr) (H : Hp) (x y : Int) (Q : VK) : Prop := ∀ (r : Addr) (H' : Hp) (n d : Int), RatAt C H' r n d → Norm n d x y → Same H H' → Q (.ref r) H'
theorem make_nz {C Z p dx : Addr} {H : Hp} {Q : VK} {E : XK} {x y : Int} (bx : Bd 8000 x) (by' : Bd 8000 y) (hy : y ≠ 0) (k : Gives C H x y Q) (np : H p = none) (nd : H dx = none) (ne : dx ≠ p) :
    spInit C Z [.ref p, .int x, .int y] (upd (upd H dx (.own p)) p (.ins C dx [])) (fun v H2 => v = .non ∧ Q (.ref p) H2) E := by
  refine ⟨p, dx, x, y, rfl, upd_same, bx, by', fun e => absurd e hy, fun _ t b hn => ⟨rfl, ?_⟩⟩
  refine k p _ t b ⟨dx, upd_same⟩ hn fun c o e => ?_
  rw [upd_ne (ne_of_none e np), upd_ne (ne_of_none e np), upd_ne (ne_of_none e nd)]
  exact e
theorem make_z {C Z p dx : Addr} {H : Hp} {Q : VK} {E : XK} {x : Int} (bx : Bd 8000 x) (k : ∀ H', Same H H' → E (.ref Z) none H') (np : H p = none) (nd : H dx = none) :
    spInit C Z [.ref p, .int x, .int 0] (upd (upd H dx (.own p)) p (.ins C dx [])) (fun v H2 => v = .non ∧ Q (.ref p) H2) E := by
  refine ⟨p, dx, x, 0, rfl, upd_same, bx, by unfold Bd; exact Nat.pow_pos (by decide), fun _ => k _ fun c o e => ?_, fun h => absurd rfl h⟩
  rw [upd_ne (ne_of_none e np), upd_ne (ne_of_none e nd)]
  exact e
def addN (t b u c : Int) : Int := t * c + u * b
def subN (t b u c : Int) : Int := t * c - u * b
def mulN (t b u c : Int) : Int := t * u
def raddN (t b u c : Int) : Int := t * c + u * b
def rsubN (t b u c : Int) : Int := u * b - t * c
def rmulN (t b u c : Int) : Int := t * u
/-- an operator of a ratio and a number -/
def spBin (C : Addr) (N : Int → Int → Int → Int → Int) : Sp := fun vs H Q _ => ∃ (p : Addr) (v : V) (t b u c : Int), vs = [.ref p, v] ∧ RatAt C H p t b ∧ NumAt C H v u c ∧ Low t b ∧ Low u c ∧ Bd 2000 t ∧ Bd 2000 b ∧ Bd 2000 u ∧ Bd 2000 c ∧
  Gives C H (N t b u c) (b * c) Q
def spRef (C : Addr) (N : Int → Int → Int → Int → Int) : Sp := fun vs H Q _ => ∃ (p : Addr) (t b u : Int), vs = [.ref p, .int u] ∧ RatAt C H p t b ∧ Low t b ∧ Bd 2000 t ∧ Bd 2000 b ∧ Bd 2000 u ∧ Gives C H (N t b u 1) (b * 1) Q
def spUn (C : Addr) (N : Int → Int) : Sp := fun vs H Q _ => ∃ (p : Addr) (t b : Int), vs = [.ref p] ∧ RatAt C H p t b ∧ Low t b ∧ Bd 2000 t ∧ Bd 2000 b ∧ Gives C H (N t) b Q
def spEq (C : Addr) : Sp := fun vs H Q _ => ∃ (p : Addr) (v : V) (t b u c : Int), vs = [.ref p, v] ∧ RatAt C H p t b ∧ NumAt C H v u c ∧ Low t b ∧ Low u c ∧ Q (.bl (decide (t * c = u * b))) H
def spBool (C : Addr) : Sp := fun vs H Q _ => ∃ (p : Addr) (t b : Int), vs = [.ref p] ∧ RatAt C H p t b ∧ Q (.bl (t != 0)) H
def spOver (C Z : Addr) : Sp := fun vs H Q E => ∃ (p : Addr) (v : V) (t b u c : Int), vs = [.ref p, v] ∧ RatAt C H p t b ∧ NumAt C H v u c ∧ Low t b ∧ Low u c ∧ Bd 2000 t ∧ Bd 2000 b ∧ Bd 2000 u ∧ Bd 2000 c ∧
  (u = 0 → ∀ H', Same H H' → E (.ref Z) none H') ∧ (u ≠ 0 → Gives C H (t * c) (b * u) Q)
def spSign (C : Addr) : Sp := fun vs H Q _ => ∃ (p : Addr) (t b : Int), vs = [.ref p] ∧ RatAt C H p t b ∧ Q (.int t.sign) H
def spCompare (C : Addr) : Sp := fun vs H Q _ => ∃ (p q : Addr) (t b u c : Int), vs = [.ref p, .ref q] ∧ RatAt C H p t b ∧ RatAt C H q u c ∧ Low t b ∧ Low u c ∧ Bd 2000 t ∧ Bd 2000 b ∧ Bd 2000 u ∧ Bd 2000 c ∧
  ∀ H', Same H H' → Q (.int (t * c - u * b).sign) H'
theorem Low.nz {t b : Int} (h : Low t b) : b ≠ 0 := by have := h.pos; omega
theorem Low.same {t b u c : Int} (h : Low t b) (h' : Low u c) (e : t * c = u * b) : t = u ∧ b = c := by
  have n : Norm t b u c := ⟨h.pos, e, h.cop⟩
  have m : Norm u c t b := ⟨h'.pos, e.symm, h'.cop⟩
  have h1 := n.le h'.nz
  have h2 := m.le h.nz
  have p1 := h.pos
  have p2 := h'.pos
  have eb : b = c := by omega
  subst eb
  exact ⟨Int.eq_of_mul_eq_mul_right h.nz e, rfl⟩
def t_init (K : PySem.W.Frag) (C Z : Addr) (E : XK) : TS :=
    (tSeq (tIfS (tTest (tOp rEq (tVar 2) (tC (.int 0)))) (tRaise0 Z E) tNext)
    (tSeq (tAsg (tCB rGcd (tCons (tVar 1) (tCons (tVar 2) tNil))) (gName 3))
    (tSeq (tIfS (tTest (tOp (rI0 fun i j => .bl (decide (i < j))) (tVar 2) (tC (.int 0)))) (tAsg (tUn (rU fun i => .int (-i)) (tVar 3)) (gName 3)) tNext)
    (tSeq (sFld K (tVar 0) (tOp (rI CDivF fun i j => .int (i.fdiv j)) (tVar 1) (tVar 3)) "top")
    (sFld K (tVar 0) (tOp (rI CDivF fun i j => .int (i.fdiv j)) (tVar 2) (tVar 3)) "bottom")))))
def t_add (K : PySem.W.Frag) (C Z : Addr) (E : XK) : TS :=
    (tSeq (tIfS (tB (tCB (rIsA C) (tCons (tVar 1) (tCons (tC (.ty "int")) tNil)))) (tRet (tMake C (spInit C Z) [] E0 (tCons (tOp (rI0 fun i j => .int (i + j)) (tUn (rFld C "top") (tVar 0)) (tOp (rI IntMulOk fun i j => .int (i * j)) (tVar 1) (tUn (rFld C "bottom") (tVar 0)))) (tCons (tUn (rFld C "bottom") (tVar 0)) tNil)))) tNext)
    (tSeq (tIfS (tNot (tB (tCB (rIsA C) (tCons (tVar 1) (tCons (tC (.ref C)) tNil))))) tNever tNext)
    (tRet (tMake C (spInit C Z) [] E0 (tCons (tOp (rI0 fun i j => .int (i + j)) (tOp (rI IntMulOk fun i j => .int (i * j)) (tUn (rFld C "top") (tVar 0)) (tUn (rFld C "bottom") (tVar 1))) (tOp (rI IntMulOk fun i j => .int (i * j)) (tUn (rFld C "top") (tVar 1)) (tUn (rFld C "bottom") (tVar 0)))) (tCons (tOp (rI IntMulOk fun i j => .int (i * j)) (tUn (rFld C "bottom") (tVar 0)) (tUn (rFld C "bottom") (tVar 1))) tNil))))))
def t_sub (K : PySem.W.Frag) (C Z : Addr) (E : XK) : TS :=
    (tSeq (tIfS (tB (tCB (rIsA C) (tCons (tVar 1) (tCons (tC (.ty "int")) tNil)))) (tRet (tMake C (spInit C Z) [] E0 (tCons (tOp (rI0 fun i j => .int (i - j)) (tUn (rFld C "top") (tVar 0)) (tOp (rI IntMulOk fun i j => .int (i * j)) (tVar 1) (tUn (rFld C "bottom") (tVar 0)))) (tCons (tUn (rFld C "bottom") (tVar 0)) tNil)))) tNext)
    (tSeq (tIfS (tNot (tB (tCB (rIsA C) (tCons (tVar 1) (tCons (tC (.ref C)) tNil))))) tNever tNext)
    (tRet (tMake C (spInit C Z) [] E0 (tCons (tOp (rI0 fun i j => .int (i - j)) (tOp (rI IntMulOk fun i j => .int (i * j)) (tUn (rFld C "top") (tVar 0)) (tUn (rFld C "bottom") (tVar 1))) (tOp (rI IntMulOk fun i j => .int (i * j)) (tUn (rFld C "top") (tVar 1)) (tUn (rFld C "bottom") (tVar 0)))) (tCons (tOp (rI IntMulOk fun i j => .int (i * j)) (tUn (rFld C "bottom") (tVar 0)) (tUn (rFld C "bottom") (tVar 1))) tNil))))))
def t_mul (K : PySem.W.Frag) (C Z : Addr) (E : XK) : TS :=
    (tSeq (tIfS (tB (tCB (rIsA C) (tCons (tVar 1) (tCons (tC (.ty "int")) tNil)))) (tRet (tMake C (spInit C Z) [] E0 (tCons (tOp (rI IntMulOk fun i j => .int (i * j)) (tUn (rFld C "top") (tVar 0)) (tVar 1)) (tCons (tUn (rFld C "bottom") (tVar 0)) tNil)))) tNext)
    (tSeq (tIfS (tNot (tB (tCB (rIsA C) (tCons (tVar 1) (tCons (tC (.ref C)) tNil))))) tNever tNext)
    (tRet (tMake C (spInit C Z) [] E0 (tCons (tOp (rI IntMulOk fun i j => .int (i * j)) (tUn (rFld C "top") (tVar 0)) (tUn (rFld C "top") (tVar 1))) (tCons (tOp (rI IntMulOk fun i j => .int (i * j)) (tUn (rFld C "bottom") (tVar 0)) (tUn (rFld C "bottom") (tVar 1))) tNil))))))
def t_neg (K : PySem.W.Frag) (C Z : Addr) (E : XK) : TS :=
    (tRet (tMake C (spInit C Z) [] E0 (tCons (tUn (rU fun i => .int (-i)) (tUn (rFld C "top") (tVar 0))) (tCons (tUn (rFld C "bottom") (tVar 0)) tNil))))
def t_radd (K : PySem.W.Frag) (C Z : Addr) (E : XK) : TS :=
    (tRet (tOp (rOwnI C (spBin C addN) E0) (tVar 0) (tVar 1)))
def t_rsub (K : PySem.W.Frag) (C Z : Addr) (E : XK) : TS :=
    (tRet (tOp (rOwnI C (spBin C addN) E0) (tUn (rOwnU C (spUn C (fun t => -t)) E0) (tVar 0)) (tVar 1)))
def t_rmul (K : PySem.W.Frag) (C Z : Addr) (E : XK) : TS :=
    (tRet (tOp (rOwnI C (spBin C mulN) E0) (tVar 0) (tVar 1)))
def t_abs (K : PySem.W.Frag) (C Z : Addr) (E : XK) : TS :=
    (tRet (tMake C (spInit C Z) [] E0 (tCons (tCB rAbs1 (tCons (tUn (rFld C "top") (tVar 0)) tNil)) (tCons (tUn (rFld C "bottom") (tVar 0)) tNil))))
def t_eq (K : PySem.W.Frag) (C Z : Addr) (E : XK) : TS :=
    (tSeq (tIfS (tB (tCB (rIsA C) (tCons (tVar 1) (tCons (tC (.ty "int")) tNil)))) (tRet (tAndV (tOp rEq (tUn (rFld C "bottom") (tVar 0)) (tC (.int 1))) (tOp rEq (tUn (rFld C "top") (tVar 0)) (tVar 1)))) tNext)
    (tRet (tAndV (tCB (rIsA C) (tCons (tVar 1) (tCons (tC (.ref C)) tNil))) (tAndV (tOp rEq (tUn (rFld C "top") (tVar 0)) (tUn (rFld C "top") (tVar 1))) (tOp rEq (tUn (rFld C "bottom") (tVar 0)) (tUn (rFld C "bottom") (tVar 1)))))))
def t_bool (K : PySem.W.Frag) (C Z : Addr) (E : XK) : TS :=
    (tRet (tCB rBool1 (tCons (tUn (rFld C "top") (tVar 0)) tNil)))
def t_over (K : PySem.W.Frag) (C Z : Addr) (E : XK) : TS :=
    (tSeq (tIfS (tB (tCB (rIsA C) (tCons (tVar 1) (tCons (tC (.ty "int")) tNil)))) (tRet (tMake C (spInit C Z) [] E (tCons (tUn (rFld C "top") (tVar 0)) (tCons (tOp (rI IntMulOk fun i j => .int (i * j)) (tUn (rFld C "bottom") (tVar 0)) (tVar 1)) tNil)))) tNext)
    (tRet (tMake C (spInit C Z) [] E (tCons (tOp (rI IntMulOk fun i j => .int (i * j)) (tUn (rFld C "top") (tVar 0)) (tUn (rFld C "bottom") (tVar 1))) (tCons (tOp (rI IntMulOk fun i j => .int (i * j)) (tUn (rFld C "bottom") (tVar 0)) (tUn (rFld C "top") (tVar 1))) tNil)))))
def t_sign (K : PySem.W.Frag) (C Z : Addr) (E : XK) : TS :=
    (tSeq (tIfS (tTest (tOp (rI0 fun i j => .bl (decide (i < j))) (tUn (rFld C "top") (tVar 0)) (tC (.int 0)))) (tRet (tUn (rU fun i => .int (-i)) (tC (.int 1)))) tNext)
    (tRet (tIf (tTest (tOp (rI0 fun i j => .bl (decide (j < i))) (tUn (rFld C "top") (tVar 0)) (tC (.int 0)))) (tC (.int 1)) (tC (.int 0)))))
def t_compare (K : PySem.W.Frag) (C Z : Addr) (E : XK) : TS :=
    (tRet (tMeth C "sign" (spSign C) [] E0 (tOp (rOwn2 C (spBin C subN) E0) (tVar 0) (tVar 1)) tNil))
/-- what a text must say of the class's fields -/
structure FldOk (K : PySem.W.Frag) (C : Addr) : Prop where
  cl : Cls K C
  nt : NoAttr K C "top"
  nb : NoAttr K C "bottom"
section
variable {K : PySem.W.Frag} {C Z : Addr}
theorem pure_init (T : FldOk K C) (vs : List V) (H : Hp) (Q : VK) (E : XK) (h : spInit C Z vs H Q E) : t_init K C Z E { nx := fun _ H' => Q .non H', rt := Q } (start ["self", "top", "bottom", "common"] vs) H := by
  obtain ⟨p, dx, x, y, rfl, hp, bx, by', kz, kn⟩ := h
  show t_init K C Z E _ [some (.ref p), some (.int x), some (.int y), none] H
  unfold t_init
  simp only [x_seq, x_if, x_test, x_B, x_op, x_un, x_varS, x_var0, x_c, x_I0, x_I, x_U, x_bl, x_ret, x_next, x_asg, x_name, x_set0, x_setS, x_drop, x_cb, x_cons, x_nil, x_int1, x_abs1, x_max2, x_gcd, x_gsub, x_sl, x_part, x_nopart, x_int, x_call, x_lst, x_tup, x_not, x_and, x_or, x_andV, x_orV, x_notV, x_ifE, x_eqI, x_neI, x_eqB, x_neB, x_tbm, x_never, x_make, x_meth, x_isII, x_isIC, x_bool1, decide_eq_true_eq, List.append_nil, List.nil_append, List.cons_append]
  refine ite2 (fun hy => kz hy) fun hy => ?_
  have fin : ∀ g : Int, g = (if y < 0 then -((Nat.gcd x.natAbs y.natAbs : Nat) : Int) else ((Nat.gcd x.natAbs y.natAbs : Nat) : Int)) →
      tSeq (sFld K (tVar 0) (tOp (rI CDivF fun i j => .int (i.fdiv j)) (tVar 1) (tVar 3)) "top") (sFld K (tVar 0) (tOp (rI CDivF fun i j => .int (i.fdiv j)) (tVar 2) (tVar 3)) "bottom")
        { nx := fun _ H' => Q .non H', rt := Q } [some (.ref p), some (.int x), some (.int y), some (.int g)] H := by
    intro g hg
    obtain ⟨gn, ga, hN⟩ := norm_mk hy hg
    have gb : g.natAbs < 2 ^ 8000 := by
      rw [ga]
      exact Nat.lt_of_le_of_lt (Nat.gcd_le_right _ (by omega)) by'
    rw [x_seq]
    unfold sFld
    simp only [x_seq, x_if, x_test, x_B, x_op, x_un, x_varS, x_var0, x_c, x_I0, x_I, x_U, x_bl, x_ret, x_next, x_asg, x_name, x_set0, x_setS, x_drop, x_cb, x_cons, x_nil, x_int1, x_abs1, x_max2, x_gcd, x_gsub, x_sl, x_part, x_nopart, x_int, x_call, x_lst, x_tup, x_not, x_and, x_or, x_andV, x_orV, x_notV, x_ifE, x_eqI, x_neI, x_eqB, x_neB, x_tbm, x_never, x_make, x_meth, x_isII, x_isIC, x_bool1, decide_eq_true_eq, List.append_nil, List.nil_append, List.cons_append]
    refine ⟨any_div gn gb, p, C, dx, [], rfl, hp, T.cl, T.nt, by decide, any_div gn gb, p, C, dx, _, rfl, upd_same, T.cl, T.nb, by show 1 < 1000; decide, ?_⟩
    have e := kn hy _ _ hN
    rw [upd_upd]
    exact e
  refine ite2 (fun hlt => ?_) fun hge => ?_
  · exact fin _ (by rw [if_pos hlt])
  · exact fin _ (by rw [if_neg hge])
theorem pure_add (vs : List V) (H : Hp) (Q : VK) (E : XK) (h : spBin C addN vs H Q E) : t_add K C Z E { nx := fun _ H' => Q .non H', rt := Q } (start ["self", "other"] vs) H := by
  obtain ⟨p, v, t, b, u, c, rfl, ⟨dx, hp⟩, hv, l1, l2, bt, bb, bu, bc, k⟩ := h
  have nb := l1.nz
  have nc := l2.nz
  unfold addN at k
  show t_add K C Z E _ [some (.ref p), some v] H
  unfold t_add
  cases hv with
  | int u =>
    simp only [x_seq, x_if, x_test, x_B, x_op, x_un, x_varS, x_var0, x_c, x_I0, x_I, x_U, x_bl, x_ret, x_next, x_asg, x_name, x_set0, x_setS, x_drop, x_cb, x_cons, x_nil, x_int1, x_abs1, x_max2, x_gcd, x_gsub, x_sl, x_part, x_nopart, x_int, x_call, x_lst, x_tup, x_not, x_and, x_or, x_andV, x_orV, x_notV, x_ifE, x_eqI, x_neI, x_eqB, x_neB, x_tbm, x_never, x_make, x_meth, x_isII, x_isIC, x_bool1, decide_eq_true_eq, List.append_nil, List.nil_append, List.cons_append, x_top hp, x_bot hp, if_true]
    rw [Int.mul_one, Int.mul_one] at k
    exact ⟨bu.ok2 bb, fun q d n1 n2 n3 => make_nz ((bt.mono (by decide)).add (bu.mul bb) |>.mono (by decide)) (bb.mono (by decide)) nb k n1 n2 n3⟩
  | rat hq =>
    obtain ⟨dy, hq⟩ := hq
    simp only [x_seq, x_if, x_test, x_B, x_op, x_un, x_varS, x_var0, x_c, x_I0, x_I, x_U, x_bl, x_ret, x_next, x_asg, x_name, x_set0, x_setS, x_drop, x_cb, x_cons, x_nil, x_int1, x_abs1, x_max2, x_gcd, x_gsub, x_sl, x_part, x_nopart, x_int, x_call, x_lst, x_tup, x_not, x_and, x_or, x_andV, x_orV, x_notV, x_ifE, x_eqI, x_neI, x_eqB, x_neB, x_tbm, x_never, x_make, x_meth, x_isII, x_isIC, x_bool1, decide_eq_true_eq, List.append_nil, List.nil_append, List.cons_append, x_top hp, x_bot hp, x_top hq, x_bot hq, x_isRI hq, x_isRC hq, if_true, Bool.false_eq_true, if_false, Bool.not_true]
    exact ⟨bt.ok2 bc, bu.ok2 bb, bb.ok2 bc, fun q d n1 n2 n3 => make_nz ((bt.mul bc).add (bu.mul bb) |>.mono (by decide)) ((bb.mul bc).mono (by decide)) (Int.mul_ne_zero nb nc) k n1 n2 n3⟩
theorem pure_sub (vs : List V) (H : Hp) (Q : VK) (E : XK) (h : spBin C subN vs H Q E) : t_sub K C Z E { nx := fun _ H' => Q .non H', rt := Q } (start ["self", "other"] vs) H := by
  obtain ⟨p, v, t, b, u, c, rfl, ⟨dx, hp⟩, hv, l1, l2, bt, bb, bu, bc, k⟩ := h
  have nb := l1.nz
  have nc := l2.nz
  unfold subN at k
  show t_sub K C Z E _ [some (.ref p), some v] H
  unfold t_sub
  cases hv with
  | int u =>
    simp only [x_seq, x_if, x_test, x_B, x_op, x_un, x_varS, x_var0, x_c, x_I0, x_I, x_U, x_bl, x_ret, x_next, x_asg, x_name, x_set0, x_setS, x_drop, x_cb, x_cons, x_nil, x_int1, x_abs1, x_max2, x_gcd, x_gsub, x_sl, x_part, x_nopart, x_int, x_call, x_lst, x_tup, x_not, x_and, x_or, x_andV, x_orV, x_notV, x_ifE, x_eqI, x_neI, x_eqB, x_neB, x_tbm, x_never, x_make, x_meth, x_isII, x_isIC, x_bool1, decide_eq_true_eq, List.append_nil, List.nil_append, List.cons_append, x_top hp, x_bot hp, if_true]
    rw [Int.mul_one, Int.mul_one] at k
    exact ⟨bu.ok2 bb, fun q d n1 n2 n3 => make_nz ((bt.mono (by decide)).sub (bu.mul bb) |>.mono (by decide)) (bb.mono (by decide)) nb k n1 n2 n3⟩
  | rat hq =>
    obtain ⟨dy, hq⟩ := hq
    simp only [x_seq, x_if, x_test, x_B, x_op, x_un, x_varS, x_var0, x_c, x_I0, x_I, x_U, x_bl, x_ret, x_next, x_asg, x_name, x_set0, x_setS, x_drop, x_cb, x_cons, x_nil, x_int1, x_abs1, x_max2, x_gcd, x_gsub, x_sl, x_part, x_nopart, x_int, x_call, x_lst, x_tup, x_not, x_and, x_or, x_andV, x_orV, x_notV, x_ifE, x_eqI, x_neI, x_eqB, x_neB, x_tbm, x_never, x_make, x_meth, x_isII, x_isIC, x_bool1, decide_eq_true_eq, List.append_nil, List.nil_append, List.cons_append, x_top hp, x_bot hp, x_top hq, x_bot hq, x_isRI hq, x_isRC hq, if_true, Bool.false_eq_true, if_false, Bool.not_true]
    exact ⟨bt.ok2 bc, bu.ok2 bb, bb.ok2 bc, fun q d n1 n2 n3 => make_nz ((bt.mul bc).sub (bu.mul bb) |>.mono (by decide)) ((bb.mul bc).mono (by decide)) (Int.mul_ne_zero nb nc) k n1 n2 n3⟩
theorem pure_mul (vs : List V) (H : Hp) (Q : VK) (E : XK) (h : spBin C mulN vs H Q E) : t_mul K C Z E { nx := fun _ H' => Q .non H', rt := Q } (start ["self", "other"] vs) H := by
  obtain ⟨p, v, t, b, u, c, rfl, ⟨dx, hp⟩, hv, l1, l2, bt, bb, bu, bc, k⟩ := h
  have nb := l1.nz
  have nc := l2.nz
  unfold mulN at k
  show t_mul K C Z E _ [some (.ref p), some v] H
  unfold t_mul
  cases hv with
  | int u =>
    simp only [x_seq, x_if, x_test, x_B, x_op, x_un, x_varS, x_var0, x_c, x_I0, x_I, x_U, x_bl, x_ret, x_next, x_asg, x_name, x_set0, x_setS, x_drop, x_cb, x_cons, x_nil, x_int1, x_abs1, x_max2, x_gcd, x_gsub, x_sl, x_part, x_nopart, x_int, x_call, x_lst, x_tup, x_not, x_and, x_or, x_andV, x_orV, x_notV, x_ifE, x_eqI, x_neI, x_eqB, x_neB, x_tbm, x_never, x_make, x_meth, x_isII, x_isIC, x_bool1, decide_eq_true_eq, List.append_nil, List.nil_append, List.cons_append, x_top hp, x_bot hp, if_true]
    rw [Int.mul_one] at k
    exact ⟨bt.ok2 bu, fun q d n1 n2 n3 => make_nz ((bt.mul bu).mono (by decide)) (bb.mono (by decide)) nb k n1 n2 n3⟩
  | rat hq =>
    obtain ⟨dy, hq⟩ := hq
    simp only [x_seq, x_if, x_test, x_B, x_op, x_un, x_varS, x_var0, x_c, x_I0, x_I, x_U, x_bl, x_ret, x_next, x_asg, x_name, x_set0, x_setS, x_drop, x_cb, x_cons, x_nil, x_int1, x_abs1, x_max2, x_gcd, x_gsub, x_sl, x_part, x_nopart, x_int, x_call, x_lst, x_tup, x_not, x_and, x_or, x_andV, x_orV, x_notV, x_ifE, x_eqI, x_neI, x_eqB, x_neB, x_tbm, x_never, x_make, x_meth, x_isII, x_isIC, x_bool1, decide_eq_true_eq, List.append_nil, List.nil_append, List.cons_append, x_top hp, x_bot hp, x_top hq, x_bot hq, x_isRI hq, x_isRC hq, if_true, Bool.false_eq_true, if_false, Bool.not_true]
    exact ⟨bt.ok2 bu, bb.ok2 bc, fun q d n1 n2 n3 => make_nz ((bt.mul bu).mono (by decide)) ((bb.mul bc).mono (by decide)) (Int.mul_ne_zero nb nc) k n1 n2 n3⟩
theorem pure_over (vs : List V) (H : Hp) (Q : VK) (E : XK) (h : spOver C Z vs H Q E) : t_over K C Z E { nx := fun _ H' => Q .non H', rt := Q } (start ["self", "b"] vs) H := by
  obtain ⟨p, v, t, b, u, c, rfl, ⟨dx, hp⟩, hv, l1, l2, bt, bb, bu, bc, kz, k⟩ := h
  have nb := l1.nz
  have nc := l2.nz
  show t_over K C Z E _ [some (.ref p), some v] H
  unfold t_over
  cases hv with
  | int u =>
    simp only [x_seq, x_if, x_test, x_B, x_op, x_un, x_varS, x_var0, x_c, x_I0, x_I, x_U, x_bl, x_ret, x_next, x_asg, x_name, x_set0, x_setS, x_drop, x_cb, x_cons, x_nil, x_int1, x_abs1, x_max2, x_gcd, x_gsub, x_sl, x_part, x_nopart, x_int, x_call, x_lst, x_tup, x_not, x_and, x_or, x_andV, x_orV, x_notV, x_ifE, x_eqI, x_neI, x_eqB, x_neB, x_tbm, x_never, x_make, x_meth, x_isII, x_isIC, x_bool1, decide_eq_true_eq, List.append_nil, List.nil_append, List.cons_append, x_top hp, x_bot hp, if_true]
    refine ⟨bb.ok2 bu, fun q d n1 n2 n3 => ?_⟩
    by_cases hu : u = 0
    · subst hu
      rw [Int.mul_zero]
      exact make_z (bt.mono (by decide)) (kz rfl) n1 n2
    · have k := k hu
      rw [Int.mul_one] at k
      exact make_nz (bt.mono (by decide)) ((bb.mul bu).mono (by decide)) (Int.mul_ne_zero nb hu) k n1 n2 n3
  | rat hq =>
    obtain ⟨dy, hq⟩ := hq
    simp only [x_seq, x_if, x_test, x_B, x_op, x_un, x_varS, x_var0, x_c, x_I0, x_I, x_U, x_bl, x_ret, x_next, x_asg, x_name, x_set0, x_setS, x_drop, x_cb, x_cons, x_nil, x_int1, x_abs1, x_max2, x_gcd, x_gsub, x_sl, x_part, x_nopart, x_int, x_call, x_lst, x_tup, x_not, x_and, x_or, x_andV, x_orV, x_notV, x_ifE, x_eqI, x_neI, x_eqB, x_neB, x_tbm, x_never, x_make, x_meth, x_isII, x_isIC, x_bool1, decide_eq_true_eq, List.append_nil, List.nil_append, List.cons_append, x_top hp, x_bot hp, x_top hq, x_bot hq, x_isRI hq, Bool.false_eq_true, if_false]
    refine ⟨bt.ok2 bc, bb.ok2 bu, fun q d n1 n2 n3 => ?_⟩
    by_cases hu : u = 0
    · subst hu
      rw [Int.mul_zero]
      exact make_z ((bt.mul bc).mono (by decide)) (kz rfl) n1 n2
    · exact make_nz ((bt.mul bc).mono (by decide)) ((bb.mul bu).mono (by decide)) (Int.mul_ne_zero nb hu) (k hu) n1 n2 n3
theorem pure_neg (vs : List V) (H : Hp) (Q : VK) (E : XK) (h : spUn C (fun t => -t) vs H Q E) : t_neg K C Z E { nx := fun _ H' => Q .non H', rt := Q } (start ["self"] vs) H := by
  obtain ⟨p, t, b, rfl, ⟨dx, hp⟩, l1, bt, bb, k⟩ := h
  show t_neg K C Z E _ [some (.ref p)] H
  unfold t_neg
  simp only [x_seq, x_if, x_test, x_B, x_op, x_un, x_varS, x_var0, x_c, x_I0, x_I, x_U, x_bl, x_ret, x_next, x_asg, x_name, x_set0, x_setS, x_drop, x_cb, x_cons, x_nil, x_int1, x_abs1, x_max2, x_gcd, x_gsub, x_sl, x_part, x_nopart, x_int, x_call, x_lst, x_tup, x_not, x_and, x_or, x_andV, x_orV, x_notV, x_ifE, x_eqI, x_neI, x_eqB, x_neB, x_tbm, x_never, x_make, x_meth, x_isII, x_isIC, x_bool1, decide_eq_true_eq, List.append_nil, List.nil_append, List.cons_append, x_top hp, x_bot hp]
  exact fun q d n1 n2 n3 => make_nz (bt.neg.mono (by decide)) (bb.mono (by decide)) l1.nz k n1 n2 n3
theorem pure_abs (vs : List V) (H : Hp) (Q : VK) (E : XK) (h : spUn C (fun t => if t < 0 then -t else t) vs H Q E) : t_abs K C Z E { nx := fun _ H' => Q .non H', rt := Q } (start ["self"] vs) H := by
  obtain ⟨p, t, b, rfl, ⟨dx, hp⟩, l1, bt, bb, k⟩ := h
  show t_abs K C Z E _ [some (.ref p)] H
  unfold t_abs
  simp only [x_seq, x_if, x_test, x_B, x_op, x_un, x_varS, x_var0, x_c, x_I0, x_I, x_U, x_bl, x_ret, x_next, x_asg, x_name, x_set0, x_setS, x_drop, x_cb, x_cons, x_nil, x_int1, x_abs1, x_max2, x_gcd, x_gsub, x_sl, x_part, x_nopart, x_int, x_call, x_lst, x_tup, x_not, x_and, x_or, x_andV, x_orV, x_notV, x_ifE, x_eqI, x_neI, x_eqB, x_neB, x_tbm, x_never, x_make, x_meth, x_isII, x_isIC, x_bool1, decide_eq_true_eq, List.append_nil, List.nil_append, List.cons_append, x_top hp, x_bot hp]
  exact fun q d n1 n2 n3 => make_nz (bt.abs.mono (by decide)) (bb.mono (by decide)) l1.nz k n1 n2 n3
theorem pure_radd (vs : List V) (H : Hp) (Q : VK) (E : XK) (h : spRef C raddN vs H Q E) : t_radd K C Z E { nx := fun _ H' => Q .non H', rt := Q } (start ["self", "other"] vs) H := by
  obtain ⟨p, t, b, u, rfl, hr, l1, bt, bb, bu, k⟩ := h
  show t_radd K C Z E _ [some (.ref p), some (.int u)] H
  unfold t_radd
  obtain ⟨dx, hp⟩ := id hr
  simp only [x_seq, x_if, x_test, x_B, x_op, x_un, x_varS, x_var0, x_c, x_I0, x_I, x_U, x_bl, x_ret, x_next, x_asg, x_name, x_set0, x_setS, x_drop, x_cb, x_cons, x_nil, x_int1, x_abs1, x_max2, x_gcd, x_gsub, x_sl, x_part, x_nopart, x_int, x_call, x_lst, x_tup, x_not, x_and, x_or, x_andV, x_orV, x_notV, x_ifE, x_eqI, x_neI, x_eqB, x_neB, x_tbm, x_never, x_make, x_meth, x_isII, x_isIC, x_bool1, decide_eq_true_eq, List.append_nil, List.nil_append, List.cons_append, x_ownI hp]
  exact ⟨p, _, t, b, u, 1, rfl, hr, .int u, l1, .int, bt, bb, bu, .one (by decide), k⟩
theorem pure_rmul (vs : List V) (H : Hp) (Q : VK) (E : XK) (h : spRef C rmulN vs H Q E) : t_rmul K C Z E { nx := fun _ H' => Q .non H', rt := Q } (start ["self", "other"] vs) H := by
  obtain ⟨p, t, b, u, rfl, hr, l1, bt, bb, bu, k⟩ := h
  show t_rmul K C Z E _ [some (.ref p), some (.int u)] H
  unfold t_rmul
  obtain ⟨dx, hp⟩ := id hr
  simp only [x_seq, x_if, x_test, x_B, x_op, x_un, x_varS, x_var0, x_c, x_I0, x_I, x_U, x_bl, x_ret, x_next, x_asg, x_name, x_set0, x_setS, x_drop, x_cb, x_cons, x_nil, x_int1, x_abs1, x_max2, x_gcd, x_gsub, x_sl, x_part, x_nopart, x_int, x_call, x_lst, x_tup, x_not, x_and, x_or, x_andV, x_orV, x_notV, x_ifE, x_eqI, x_neI, x_eqB, x_neB, x_tbm, x_never, x_make, x_meth, x_isII, x_isIC, x_bool1, decide_eq_true_eq, List.append_nil, List.nil_append, List.cons_append, x_ownI hp]
  exact ⟨p, _, t, b, u, 1, rfl, hr, .int u, l1, .int, bt, bb, bu, .one (by decide), k⟩
theorem pure_rsub (vs : List V) (H : Hp) (Q : VK) (E : XK) (h : spRef C rsubN vs H Q E) : t_rsub K C Z E { nx := fun _ H' => Q .non H', rt := Q } (start ["self", "other"] vs) H := by
  obtain ⟨p, t, b, u, rfl, hr, l1, bt, bb, bu, k⟩ := h
  show t_rsub K C Z E _ [some (.ref p), some (.int u)] H
  unfold t_rsub
  obtain ⟨dx, hp⟩ := id hr
  simp only [x_seq, x_if, x_test, x_B, x_op, x_un, x_varS, x_var0, x_c, x_I0, x_I, x_U, x_bl, x_ret, x_next, x_asg, x_name, x_set0, x_setS, x_drop, x_cb, x_cons, x_nil, x_int1, x_abs1, x_max2, x_gcd, x_gsub, x_sl, x_part, x_nopart, x_int, x_call, x_lst, x_tup, x_not, x_and, x_or, x_andV, x_orV, x_notV, x_ifE, x_eqI, x_neI, x_eqB, x_neB, x_tbm, x_never, x_make, x_meth, x_isII, x_isIC, x_bool1, decide_eq_true_eq, List.append_nil, List.nil_append, List.cons_append, x_ownU hp]
  refine ⟨p, t, b, rfl, hr, l1, bt, bb, fun r H1 n d hr1 hn s1 => ?_⟩
  obtain ⟨dy, hq⟩ := id hr1
  simp only [x_seq, x_if, x_test, x_B, x_op, x_un, x_varS, x_var0, x_c, x_I0, x_I, x_U, x_bl, x_ret, x_next, x_asg, x_name, x_set0, x_setS, x_drop, x_cb, x_cons, x_nil, x_int1, x_abs1, x_max2, x_gcd, x_gsub, x_sl, x_part, x_nopart, x_int, x_call, x_lst, x_tup, x_not, x_and, x_or, x_andV, x_orV, x_notV, x_ifE, x_eqI, x_neI, x_eqB, x_neB, x_tbm, x_never, x_make, x_meth, x_isII, x_isIC, x_bool1, decide_eq_true_eq, List.append_nil, List.nil_append, List.cons_append, x_ownI hq]
  have le := hn.le l1.nz
  refine ⟨r, _, n, d, u, 1, rfl, hr1, .int u, hn.low, .int, bt.neg.of le.1, bb.of le.2, bu, .one (by decide), fun r2 H2 n2 d2 hr2 hn2 s2 => ?_⟩
  refine k r2 H2 n2 d2 hr2 (hn2.cross (Int.mul_ne_zero hn.low.nz (by decide)) ?_) (s1.trans s2)
  have e := hn.eq
  unfold addN rsubN
  rw [Int.mul_one, Int.mul_one, Int.mul_one, Int.mul_one, Int.add_mul, Int.sub_mul, e, Int.mul_assoc, Int.mul_comm d b, ← Int.mul_assoc, Int.neg_mul]
  omega
theorem pure_eq (vs : List V) (H : Hp) (Q : VK) (E : XK) (h : spEq C vs H Q E) : t_eq K C Z E { nx := fun _ H' => Q .non H', rt := Q } (start ["self", "other"] vs) H := by
  obtain ⟨p, v, t, b, u, c, rfl, ⟨dx, hp⟩, hv, l1, l2, k⟩ := h
  have iff : t * c = u * b ↔ t = u ∧ b = c := ⟨l1.same l2, fun ⟨e1, e2⟩ => by rw [e1, e2]⟩
  have ed : decide (t * c = u * b) = decide (t = u ∧ b = c) := decide_eq_decide.mpr iff
  rw [ed] at k
  show t_eq K C Z E _ [some (.ref p), some v] H
  unfold t_eq
  cases hv with
  | int u =>
    simp only [x_seq, x_if, x_test, x_B, x_op, x_un, x_varS, x_var0, x_c, x_I0, x_I, x_U, x_bl, x_ret, x_next, x_asg, x_name, x_set0, x_setS, x_drop, x_cb, x_cons, x_nil, x_int1, x_abs1, x_max2, x_gcd, x_gsub, x_sl, x_part, x_nopart, x_int, x_call, x_lst, x_tup, x_not, x_and, x_or, x_andV, x_orV, x_notV, x_ifE, x_eqI, x_neI, x_eqB, x_neB, x_tbm, x_never, x_make, x_meth, x_isII, x_isIC, x_bool1, decide_eq_true_eq, List.append_nil, List.nil_append, List.cons_append, x_top hp, x_bot hp, if_true]
    by_cases hb : b = 1
    · rw [if_pos hb]
      simpa [hb] using k
    · rw [if_neg hb]
      simpa [hb] using k
  | rat hq =>
    obtain ⟨dy, hq⟩ := hq
    simp only [x_seq, x_if, x_test, x_B, x_op, x_un, x_varS, x_var0, x_c, x_I0, x_I, x_U, x_bl, x_ret, x_next, x_asg, x_name, x_set0, x_setS, x_drop, x_cb, x_cons, x_nil, x_int1, x_abs1, x_max2, x_gcd, x_gsub, x_sl, x_part, x_nopart, x_int, x_call, x_lst, x_tup, x_not, x_and, x_or, x_andV, x_orV, x_notV, x_ifE, x_eqI, x_neI, x_eqB, x_neB, x_tbm, x_never, x_make, x_meth, x_isII, x_isIC, x_bool1, decide_eq_true_eq, List.append_nil, List.nil_append, List.cons_append, x_top hp, x_bot hp, x_top hq, x_bot hq, x_isRI hq, x_isRC hq, Bool.false_eq_true, if_false]
    by_cases ht : t = u
    · subst ht
      simpa using k
    · simpa [ht] using k
theorem pure_bool (vs : List V) (H : Hp) (Q : VK) (E : XK) (h : spBool C vs H Q E) : t_bool K C Z E { nx := fun _ H' => Q .non H', rt := Q } (start ["self"] vs) H := by
  obtain ⟨p, t, b, rfl, ⟨dx, hp⟩, k⟩ := h
  show t_bool K C Z E _ [some (.ref p)] H
  unfold t_bool
  simp only [x_seq, x_if, x_test, x_B, x_op, x_un, x_varS, x_var0, x_c, x_I0, x_I, x_U, x_bl, x_ret, x_next, x_asg, x_name, x_set0, x_setS, x_drop, x_cb, x_cons, x_nil, x_int1, x_abs1, x_max2, x_gcd, x_gsub, x_sl, x_part, x_nopart, x_int, x_call, x_lst, x_tup, x_not, x_and, x_or, x_andV, x_orV, x_notV, x_ifE, x_eqI, x_neI, x_eqB, x_neB, x_tbm, x_never, x_make, x_meth, x_isII, x_isIC, x_bool1, decide_eq_true_eq, List.append_nil, List.nil_append, List.cons_append, x_top hp]
  exact k
theorem pure_sign (vs : List V) (H : Hp) (Q : VK) (E : XK) (h : spSign C vs H Q E) : t_sign K C Z E { nx := fun _ H' => Q .non H', rt := Q } (start ["self"] vs) H := by
  obtain ⟨p, t, b, rfl, ⟨dx, hp⟩, k⟩ := h
  show t_sign K C Z E _ [some (.ref p)] H
  unfold t_sign
  simp only [x_seq, x_if, x_test, x_B, x_op, x_un, x_varS, x_var0, x_c, x_I0, x_I, x_U, x_bl, x_ret, x_next, x_asg, x_name, x_set0, x_setS, x_drop, x_cb, x_cons, x_nil, x_int1, x_abs1, x_max2, x_gcd, x_gsub, x_sl, x_part, x_nopart, x_int, x_call, x_lst, x_tup, x_not, x_and, x_or, x_andV, x_orV, x_notV, x_ifE, x_eqI, x_neI, x_eqB, x_neB, x_tbm, x_never, x_make, x_meth, x_isII, x_isIC, x_bool1, decide_eq_true_eq, List.append_nil, List.nil_append, List.cons_append, x_top hp]
  refine ite2 (fun hlt => ?_) fun hge => ite2 (fun hgt => ?_) fun hz => ?_
  · rwa [Int.sign_eq_neg_one_of_neg hlt] at k
  · rwa [Int.sign_eq_one_of_pos hgt] at k
  · have : t = 0 := by omega
    subst this
    exact k
theorem look_sign {t b : Int} : List.lookup ("sign" : Str) (RF t b) = none := by
  have h1 : (("sign" : Str) == "top") = false := by decide +kernel
  have h2 : (("sign" : Str) == "bottom") = false := by decide +kernel
  simp only [RF, List.lookup, h1, h2]
theorem look_over {t b : Int} : List.lookup ("over" : Str) (RF t b) = none := by
  have h1 : (("over" : Str) == "top") = false := by decide +kernel
  have h2 : (("over" : Str) == "bottom") = false := by decide +kernel
  simp only [RF, List.lookup, h1, h2]
theorem Norm.sign {n d x y : Int} (h : Norm n d x y) (hy : 0 < y) : n.sign = x.sign := by
  have e := congrArg Int.sign h.eq
  rw [Int.sign_mul, Int.sign_mul, Int.sign_eq_one_of_pos hy, Int.sign_eq_one_of_pos h.pos, Int.mul_one, Int.mul_one] at e
  exact e
theorem pure_compare (vs : List V) (H : Hp) (Q : VK) (E : XK) (h : spCompare C vs H Q E) : t_compare K C Z E { nx := fun _ H' => Q .non H', rt := Q } (start ["first", "second"] vs) H := by
  obtain ⟨p, q, t, b, u, c, rfl, hp, hq, l1, l2, bt, bb, bu, bc, k⟩ := h
  show t_compare K C Z E _ [some (.ref p), some (.ref q)] H
  unfold t_compare
  obtain ⟨dx, hp'⟩ := id hp
  obtain ⟨dy, hq'⟩ := id hq
  simp only [x_seq, x_if, x_test, x_B, x_op, x_un, x_varS, x_var0, x_c, x_I0, x_I, x_U, x_bl, x_ret, x_next, x_asg, x_name, x_set0, x_setS, x_drop, x_cb, x_cons, x_nil, x_int1, x_abs1, x_max2, x_gcd, x_gsub, x_sl, x_part, x_nopart, x_int, x_call, x_lst, x_tup, x_not, x_and, x_or, x_andV, x_orV, x_notV, x_ifE, x_eqI, x_neI, x_eqB, x_neB, x_tbm, x_never, x_make, x_meth, x_isII, x_isIC, x_bool1, decide_eq_true_eq, List.append_nil, List.nil_append, List.cons_append, x_own2 hp' hq']
  refine ⟨p, _, t, b, u, c, rfl, hp, .rat hq, l1, l2, bt, bb, bu, bc, fun r H1 n d hr hn s1 => ?_⟩
  obtain ⟨dz, hr'⟩ := id hr
  refine ⟨r, dz, _, rfl, hr', look_sign, r, n, d, rfl, hr, ?_⟩
  rw [hn.sign (Int.mul_pos l1.pos l2.pos)]
  exact k H1 s1
end
end SpX

set_option Elab.async false
set_option linter.all false
set_option maxRecDepth 100000
set_option maxHeartbeats 2000000
namespace SpX
open PySem PySem.Spec L2
/-! ### loops -/
theorem for_rngC {j : Int} {g : TG} {tb : TS} {D : Ends} {σ : L2.St} {H : Hp} (hj : 0 ≤ j ∧ j < 1000) (Pv : Nat → L2.St → Hp → Prop) (h0 : Pv 0 σ H)
    (hs : ∀ (i : Nat) σ H, (i : Int) < j → Pv i σ H → g (.int i) σ H fun σ2 H2 => tb { D with nx := Pv (i + 1), ct := Pv (i + 1), bk := D.nx } σ2 H2) (hd : ∀ σ H, Pv j.toNat σ H → D.nx σ H) : tFor (iRng1 (tCons (tC (.int j)) tNil)) g tb D σ H := by
  refine ⟨j, rfl, by omega, by omega, for_range (lo := 0) (n := j.toNat) Pv h0 (fun i σ H hi h => ?_) hd⟩
  have := hs i σ H (by omega) h
  rwa [Int.zero_add]
theorem for_lstV {K : PySem.W.Frag} {te : TE} {a : Addr} {xs : List V} {g : TG} {tb : TS} {D : Ends} {σ : L2.St} {H : Hp} (he : ∀ Q : VK, te σ H Q = Q (.ref a) H) (Pv : Nat → L2.St → Hp → Prop) (h0 : Pv 0 σ H) (hl : ∀ i σ H, i ≤ xs.length → Pv i σ H → H a = some (.lst xs))
    (hs : ∀ i x σ H, xs[i]? = some x → Pv i σ H → g x σ H fun σ2 H2 => tb { D with nx := Pv (i + 1), ct := Pv (i + 1), bk := D.nx } σ2 H2) (hd : ∀ σ H, Pv xs.length σ H → D.nx σ H) : tFor (iList K te) g tb D σ H := by
  show te σ H _
  rw [he]
  exact ⟨a, rfl, ⟨xs, SqL.at (hl 0 σ H (Nat.zero_le _) h0)⟩, for_list Pv h0 (fun i σ H h p => SqL.at (hl i σ H h p)) hs hd⟩
/-! ### draws -/
theorem Bd.nat {n : Nat} {a : Int} {b : Nat} (h0 : 0 ≤ a) (h : a < b) (l : b ≤ 2 ^ n) : Bd n a := by
  unfold Bd
  omega
theorem p60 : (10 : Int) ^ (60 : Int).toNat = ((10 ^ 60 : Nat) : Int) := by decide +kernel
theorem p58 : (10 : Int) ^ (58 : Int).toNat = ((10 ^ 58 : Nat) : Int) := by decide +kernel
theorem p30 : (10 : Int) ^ (30 : Int).toNat = ((10 ^ 30 : Nat) : Int) := by decide +kernel
theorem p9 : (10 : Int) ^ (9 : Int).toNat = 1000000000 := by decide +kernel
theorem le60 : 10 ^ 60 ≤ 2 ^ 200 := by decide +kernel
theorem le58 : 10 ^ 58 ≤ 2 ^ 200 := by decide +kernel
theorem le30 : 10 ^ 30 ≤ 2 ^ 100 := by decide +kernel
theorem big_of {n : Nat} {a : Int} (h : Bd n a) (l : n ≤ 8000) : a.natAbs < 2 ^ 8000 := h.mono l
/-- a size -/
def spSize : Sp := fun vs H Q _ => ∃ P : Addr, vs = [.ref P] ∧ PoolAt H P ∧ ∀ (r : Int) (H' : Hp), PoolAt H' P → Keep P H H' → 0 ≤ r → Bd 200 r → Q (.int r) H'
/-- what a draw asks, when the bound is small -/
theorem take_of {P : Addr} {most : Int} {H : Hp} {Q : VK} {E : XK} {n : Nat} (hp : PoolAt H P) (h2 : 2 ≤ most) (hb : Bd n most) (l : n ≤ 8000) (k : ∀ (r : Int) (H' : Hp), PoolAt H' P → Keep P H H' → 0 ≤ r → r < most → Q (.int r) H') : spTake [.ref P, .int most] H Q E :=
  ⟨P, most, rfl, hp, big_of hb l, fun r H' a b c d _ => k r H' a b c (d h2)⟩
theorem Bd.lit {n : Nat} (a : Int) (h0 : 0 ≤ a) (h : a < 2000000000) (l : 31 ≤ n) : Bd n a := by
  refine Bd.mono (m := 31) ?_ l
  unfold Bd
  omega
theorem Bd.big {a : Int} {n b : Nat} (e : a = (b : Int)) (l : b < 2 ^ n) : Bd n a := by
  unfold Bd
  rw [e, Int.natAbs_natCast]
  exact l
theorem b60 : Bd 200 ((10 ^ 60 : Nat) : Int) := .big rfl (by decide +kernel)
theorem b30 : Bd 100 ((10 ^ 30 : Nat) : Int) := .big rfl (by decide +kernel)
theorem Bd.lt {n : Nat} {a b : Int} (h : Bd n b) (h0 : 0 ≤ a) (h1 : a < b) : Bd n a := Bd.of h (by omega)
theorem pow_ok {i j : Int} (h0 : 0 ≤ j) (h1 : j ≤ 1000) (h2 : i.natAbs < 2 ^ 64) : CPow i j := ⟨h0, by omega, h2⟩
def t_size (K : PySem.W.Frag) (C Z : Addr) (E : XK) : TS :=
    (tSeq (tAsg (tCall spTake [] E0 (tCons (tVar 0) (tCons (tC (.int 4)) tNil))) (gName 1))
    (tSeq (tIfS (tTest (tOp rEq (tVar 1) (tC (.int 0)))) (tRet (tCall spTake [] E0 (tCons (tVar 0) (tCons (tC (.int 10)) tNil)))) tNext)
    (tSeq (tIfS (tTest (tOp rEq (tVar 1) (tC (.int 1)))) (tRet (tCall spTake [] E0 (tCons (tVar 0) (tCons (tC (.int 1000)) tNil)))) tNext)
    (tSeq (tIfS (tTest (tOp rEq (tVar 1) (tC (.int 2)))) (tRet (tCall spTake [] E0 (tCons (tVar 0) (tCons (tOp (rI CPow fun i j => .int (i ^ j.toNat)) (tC (.int 10)) (tC (.int 60))) tNil)))) tNext)
    (tSeq (tAsg (tC (.int 0)) (gName 2))
    (tSeq (tFor (iRng1 (tCons (tC (.int 7)) tNil)) (gName 3) ((tAsg (tOp (rI0 fun i j => .int (i + j)) (tOp (rI IntMulOk fun i j => .int (i * j)) (tVar 2) (tOp (rI CPow fun i j => .int (i ^ j.toNat)) (tC (.int 10)) (tC (.int 9)))) (tCall spTake [] E0 (tCons (tVar 0) (tCons (tOp (rI CPow fun i j => .int (i ^ j.toNat)) (tC (.int 10)) (tC (.int 9))) tNil)))) (gName 2))))
    (tRet (tOp (rI (fun _ j => 0 < j) fun i j => .int (i % j)) (tCB rInt1 (tCons (tVar 2) tNil)) (tOp (rI CPow fun i j => .int (i ^ j.toNat)) (tC (.int 10)) (tC (.int 60)))))))))))
theorem pure_size {K : PySem.W.Frag} {C Z : Addr} (vs : List V) (H : Hp) (Q : VK) (E : XK) (h : spSize vs H Q E) : t_size K C Z E { nx := fun _ H' => Q .non H', rt := Q } (start ["pool", "kind", "number", "k"] vs) H := by
  obtain ⟨P, rfl, hp, k⟩ := h
  show t_size K C Z E _ [some (.ref P), none, none, none] H
  unfold t_size
  simp only [x_seq, x_if, x_test, x_B, x_op, x_un, x_varS, x_var0, x_c, x_I0, x_I, x_U, x_bl, x_ret, x_next, x_asg, x_name, x_set0, x_setS, x_drop, x_cb, x_cons, x_nil, x_int1, x_abs1, x_max2, x_gcd, x_gsub, x_sl, x_part, x_nopart, x_int, x_call, x_lst, x_tup, x_not, x_and, x_or, x_andV, x_orV, x_notV, x_ifE, x_eqI, x_neI, x_eqB, x_neB, x_tbm, x_never, x_make, x_meth, x_isII, x_isIC, x_bool1, decide_eq_true_eq, Bool.false_eq_true, if_false, if_true, List.append_nil, List.nil_append, List.cons_append]
  refine take_of (n := 31) hp (by decide) (.lit _ (by decide) (by decide) (by decide)) (by decide) fun kind H1 hp1 k1 _ _ => ?_
  simp only [x_seq, x_if, x_test, x_B, x_op, x_un, x_varS, x_var0, x_c, x_I0, x_I, x_U, x_bl, x_ret, x_next, x_asg, x_name, x_set0, x_setS, x_drop, x_cb, x_cons, x_nil, x_int1, x_abs1, x_max2, x_gcd, x_gsub, x_sl, x_part, x_nopart, x_int, x_call, x_lst, x_tup, x_not, x_and, x_or, x_andV, x_orV, x_notV, x_ifE, x_eqI, x_neI, x_eqB, x_neB, x_tbm, x_never, x_make, x_meth, x_isII, x_isIC, x_bool1, decide_eq_true_eq, Bool.false_eq_true, if_false, if_true, List.append_nil, List.nil_append, List.cons_append, p60, p9]
  refine ite2 (fun _ => ?_) fun _ => ?_
  · exact take_of (n := 31) hp1 (by decide) (.lit _ (by decide) (by decide) (by decide)) (by decide) fun r H2 hp2 k2 r0 r1 => k r H2 hp2 (k1.trans k2) r0 (.lit _ r0 (by omega) (by decide))
  refine ite2 (fun _ => ?_) fun _ => ?_
  · exact take_of (n := 31) hp1 (by decide) (.lit _ (by decide) (by decide) (by decide)) (by decide) fun r H2 hp2 k2 r0 r1 => k r H2 hp2 (k1.trans k2) r0 (.lit _ r0 (by omega) (by decide))
  refine ite2 (fun _ => ?_) fun _ => ?_
  · exact ⟨pow_ok (by decide) (by decide) (by decide), take_of hp1 (by decide +kernel) b60 (by decide) fun r H2 hp2 k2 r0 r1 => k r H2 hp2 (k1.trans k2) r0 (b60.lt r0 r1)⟩
  · refine for_rngC (by decide) (fun i σ H' => PoolAt H' P ∧ Keep P H H' ∧ ∃ (kd kk : Option V) (z : Int), σ = [some (.ref P), kd, some (.int z), kk] ∧ 0 ≤ z) ⟨hp1, k1, _, _, 0, rfl, by decide⟩ ?_ ?_
    · rintro i σ H' hi ⟨hp2, k2, kd, kk, z, rfl, hz⟩
      simp only [x_seq, x_if, x_test, x_B, x_op, x_un, x_varS, x_var0, x_c, x_I0, x_I, x_U, x_bl, x_ret, x_next, x_asg, x_name, x_set0, x_setS, x_drop, x_cb, x_cons, x_nil, x_int1, x_abs1, x_max2, x_gcd, x_gsub, x_sl, x_part, x_nopart, x_int, x_call, x_lst, x_tup, x_not, x_and, x_or, x_andV, x_orV, x_notV, x_ifE, x_eqI, x_neI, x_eqB, x_neB, x_tbm, x_never, x_make, x_meth, x_isII, x_isIC, x_bool1, decide_eq_true_eq, Bool.false_eq_true, if_false, if_true, List.append_nil, List.nil_append, List.cons_append, p9]
      refine ⟨pow_ok (by decide) (by decide) (by decide), mul_lit (by decide), pow_ok (by decide) (by decide) (by decide), ?_⟩
      refine take_of (n := 31) hp2 (by decide) (.lit _ (by decide) (by decide) (by decide)) (by decide) fun r H2 hp3 k3 r0 r1 => ?_
      simp only [x_seq, x_if, x_test, x_B, x_op, x_un, x_varS, x_var0, x_c, x_I0, x_I, x_U, x_bl, x_ret, x_next, x_asg, x_name, x_set0, x_setS, x_drop, x_cb, x_cons, x_nil, x_int1, x_abs1, x_max2, x_gcd, x_gsub, x_sl, x_part, x_nopart, x_int, x_call, x_lst, x_tup, x_not, x_and, x_or, x_andV, x_orV, x_notV, x_ifE, x_eqI, x_neI, x_eqB, x_neB, x_tbm, x_never, x_make, x_meth, x_isII, x_isIC, x_bool1, decide_eq_true_eq, Bool.false_eq_true, if_false, if_true, List.append_nil, List.nil_append, List.cons_append]
      exact ⟨hp3, k2.trans k3, kd, _, _, rfl, by omega⟩
    · rintro σ H' ⟨hp2, k2, kd, kk, z, rfl, hz⟩
      simp only [x_seq, x_if, x_test, x_B, x_op, x_un, x_varS, x_var0, x_c, x_I0, x_I, x_U, x_bl, x_ret, x_next, x_asg, x_name, x_set0, x_setS, x_drop, x_cb, x_cons, x_nil, x_int1, x_abs1, x_max2, x_gcd, x_gsub, x_sl, x_part, x_nopart, x_int, x_call, x_lst, x_tup, x_not, x_and, x_or, x_andV, x_orV, x_notV, x_ifE, x_eqI, x_neI, x_eqB, x_neB, x_tbm, x_never, x_make, x_meth, x_isII, x_isIC, x_bool1, decide_eq_true_eq, Bool.false_eq_true, if_false, if_true, List.append_nil, List.nil_append, List.cons_append, p60]
      exact ⟨pow_ok (by decide) (by decide) (by decide), by decide +kernel, k _ _ hp2 k2 (Int.emod_nonneg _ (by decide +kernel)) (b60.lt (Int.emod_nonneg _ (by decide +kernel)) (Int.emod_lt_of_pos _ (by decide +kernel)))⟩
/-- two ints in a tuple -/
def TupAt (H : Hp) (o : Addr) (x y : Int) : Prop := H o = some (.tup [.int x, .int y])
theorem TupAt.keep {H H' : Hp} {P o : Addr} {x y : Int} (h : TupAt H o x y) (hp : PoolAt H P) (k : Keep P H H') : TupAt H' o x y := by
  obtain ⟨g, s, G, S, c, hp⟩ := hp
  exact k _ _ (lst_tup hp.p h) h
theorem TupAt.same {H H' : Hp} {o : Addr} {x y : Int} (h : TupAt H o x y) (k : Same H H') : TupAt H' o x y := k _ _ h
theorem PoolAt.same {H H' : Hp} {P : Addr} (h : PoolAt H P) (k : Same H H') : PoolAt H' P := by
  obtain ⟨g, s, G, S, c, h1, h2, h3, h4, h5, h6⟩ := h
  exact ⟨g, s, G, S, c, k _ _ h1, k _ _ h2, k _ _ h3, h4, h5, h6⟩
/-- a fraction: a new tuple, its second not zero -/
def GivesT (P : Addr) (H : Hp) (Q : VK) : Prop := ∀ (o : Addr) (H' : Hp) (x y : Int), TupAt H' o x y → PoolAt H' P → Keep P H H' → y ≠ 0 → Bd 256 x → Bd 256 y → Q (.ref o) H'
def spFraction : Sp := fun vs H Q _ => ∃ P : Addr, vs = [.ref P] ∧ PoolAt H P ∧ GivesT P H Q
theorem tup_end {P : Addr} {H H1 : Hp} {Q : VK} {x y : Int} (k : GivesT P H Q) (hp : PoolAt H1 P) (s : Keep P H H1) (hy : y ≠ 0) (bx : Bd 256 x) (by' : Bd 256 y) :
    [V.int x, .int y].length ≤ sizeLine ∧ ∀ p, H1 p = none → Q (.ref p) (upd H1 p (.tup [.int x, .int y])) :=
  ⟨by show 2 ≤ sizeLine; decide, fun p hn => k p _ x y upd_same (hp.same (Same.new hn)) (s.new hn) hy bx by'⟩
theorem size_of {P : Addr} {H : Hp} {Q : VK} {E : XK} (hp : PoolAt H P) (k : ∀ (r : Int) (H' : Hp), PoolAt H' P → Keep P H H' → 0 ≤ r → Bd 200 r → Q (.int r) H') : spSize [.ref P] H Q E := ⟨P, rfl, hp, k⟩
theorem max1 {r : Int} : (if r > 1 then r else 1) = if 1 < r then r else 1 := rfl
theorem max1_pos {r : Int} : 0 < (if r > 1 then r else 1) := by split <;> omega
theorem max1_bd {n : Nat} {r : Int} (h : Bd n r) (hn : 0 < n) : Bd n (if r > 1 then r else 1) := by
  split
  · exact h
  · exact .one hn
theorem Bd.emod {n : Nat} {a b : Int} (h : Bd n b) (h0 : 0 < b) : Bd n (a % b) := h.lt (Int.emod_nonneg _ (by omega)) (Int.emod_lt_of_pos _ h0)
def t_fraction (K : PySem.W.Frag) (C Z : Addr) (E : XK) : TS :=
    (tSeq (tAsg (tCall spSize [] E0 (tCons (tVar 0) tNil)) (gName 1))
    (tSeq (tAsg (tCB rMax2 (tCons (tC (.int 1)) (tCons (tCall spSize [] E0 (tCons (tVar 0) tNil)) tNil))) (gName 2))
    (tSeq (tAsg (tCall spTake [] E0 (tCons (tVar 0) (tCons (tC (.int 6)) tNil))) (gName 3))
    (tSeq (tIfS (tTest (tOp rEq (tVar 3) (tC (.int 0)))) (tAsg (tC (.int 0)) (gName 1)) tNext)
    (tSeq (tIfS (tOr (tTest (tOp rEq (tVar 3) (tC (.int 1)))) (tTest (tOp rEq (tVar 3) (tC (.int 2))))) (tSeq (tAsg (tCB rMax2 (tCons (tC (.int 1)) (tCons (tOp (rI (fun _ j => 0 < j) fun i j => .int (i % j)) (tCB rInt1 (tCons (tCall spSize [] E0 (tCons (tVar 0) tNil)) tNil)) (tOp (rI CPow fun i j => .int (i ^ j.toNat)) (tC (.int 10)) (tC (.int 30)))) tNil))) (gName 4))
    (tSeq (tAsg (tOp (rI IntMulOk fun i j => .int (i * j)) (tOp (rI (fun _ j => 0 < j) fun i j => .int (i % j)) (tCB rInt1 (tCons (tVar 1) tNil)) (tOp (rI CPow fun i j => .int (i ^ j.toNat)) (tC (.int 10)) (tC (.int 30)))) (tVar 4)) (gName 1))
    (tAsg (tOp (rI IntMulOk fun i j => .int (i * j)) (tCB rMax2 (tCons (tC (.int 1)) (tCons (tOp (rI (fun _ j => 0 < j) fun i j => .int (i % j)) (tCB rInt1 (tCons (tVar 2) tNil)) (tOp (rI CPow fun i j => .int (i ^ j.toNat)) (tC (.int 10)) (tC (.int 30)))) tNil))) (tVar 4)) (gName 2)))) tNext)
    (tSeq (tIfS (tTest (tOp rEq (tVar 3) (tC (.int 3)))) (tAsg (tC (.int 1)) (gName 2)) tNext)
    (tSeq (tIfS (tTest (tOp rEq (tCall spTake [] E0 (tCons (tVar 0) (tCons (tC (.int 2)) tNil))) (tC (.int 1)))) (tAsg (tUn (rU fun i => .int (-i)) (tVar 1)) (gName 1)) tNext)
    (tSeq (tIfS (tTest (tOp rEq (tCall spTake [] E0 (tCons (tVar 0) (tCons (tC (.int 4)) tNil))) (tC (.int 1)))) (tAsg (tUn (rU fun i => .int (-i)) (tVar 2)) (gName 2)) tNext)
    (tRet (tTup (tCons (tVar 1) (tCons (tVar 2) tNil))))))))))))
theorem pure_fraction {K : PySem.W.Frag} {C Z : Addr} (vs : List V) (H : Hp) (Q : VK) (E : XK) (h : spFraction vs H Q E) : t_fraction K C Z E { nx := fun _ H' => Q .non H', rt := Q } (start ["pool", "above", "below", "kind", "factor"] vs) H := by
  obtain ⟨P, rfl, hp, k⟩ := h
  show t_fraction K C Z E _ [some (.ref P), none, none, none, none] H
  unfold t_fraction
  simp only [x_seq, x_if, x_test, x_B, x_op, x_un, x_varS, x_var0, x_c, x_I0, x_I, x_U, x_bl, x_ret, x_next, x_asg, x_name, x_set0, x_setS, x_drop, x_cb, x_cons, x_nil, x_int1, x_abs1, x_max2, x_gcd, x_gsub, x_sl, x_part, x_nopart, x_int, x_call, x_lst, x_tup, x_not, x_and, x_or, x_andV, x_orV, x_notV, x_ifE, x_eqI, x_neI, x_eqB, x_neB, x_tbm, x_never, x_make, x_meth, x_isII, x_isIC, x_bool1, decide_eq_true_eq, Bool.false_eq_true, if_false, if_true, List.append_nil, List.nil_append, List.cons_append]
  refine size_of hp fun above H1 hp1 k1 a0 ab => ?_
  simp only [x_seq, x_if, x_test, x_B, x_op, x_un, x_varS, x_var0, x_c, x_I0, x_I, x_U, x_bl, x_ret, x_next, x_asg, x_name, x_set0, x_setS, x_drop, x_cb, x_cons, x_nil, x_int1, x_abs1, x_max2, x_gcd, x_gsub, x_sl, x_part, x_nopart, x_int, x_call, x_lst, x_tup, x_not, x_and, x_or, x_andV, x_orV, x_notV, x_ifE, x_eqI, x_neI, x_eqB, x_neB, x_tbm, x_never, x_make, x_meth, x_isII, x_isIC, x_bool1, decide_eq_true_eq, Bool.false_eq_true, if_false, if_true, List.append_nil, List.nil_append, List.cons_append]
  refine size_of hp1 fun below H2 hp2 k2 b0 bb => ?_
  simp only [x_seq, x_if, x_test, x_B, x_op, x_un, x_varS, x_var0, x_c, x_I0, x_I, x_U, x_bl, x_ret, x_next, x_asg, x_name, x_set0, x_setS, x_drop, x_cb, x_cons, x_nil, x_int1, x_abs1, x_max2, x_gcd, x_gsub, x_sl, x_part, x_nopart, x_int, x_call, x_lst, x_tup, x_not, x_and, x_or, x_andV, x_orV, x_notV, x_ifE, x_eqI, x_neI, x_eqB, x_neB, x_tbm, x_never, x_make, x_meth, x_isII, x_isIC, x_bool1, decide_eq_true_eq, Bool.false_eq_true, if_false, if_true, List.append_nil, List.nil_append, List.cons_append]
  refine take_of (n := 31) hp2 (by decide) (.lit _ (by decide) (by decide) (by decide)) (by decide) fun kind H3 hp3 k3 _ _ => ?_
  simp only [x_seq, x_if, x_test, x_B, x_op, x_un, x_varS, x_var0, x_c, x_I0, x_I, x_U, x_bl, x_ret, x_next, x_asg, x_name, x_set0, x_setS, x_drop, x_cb, x_cons, x_nil, x_int1, x_abs1, x_max2, x_gcd, x_gsub, x_sl, x_part, x_nopart, x_int, x_call, x_lst, x_tup, x_not, x_and, x_or, x_andV, x_orV, x_notV, x_ifE, x_eqI, x_neI, x_eqB, x_neB, x_tbm, x_never, x_make, x_meth, x_isII, x_isIC, x_bool1, decide_eq_true_eq, Bool.false_eq_true, if_false, if_true, List.append_nil, List.nil_append, List.cons_append, p30]
  have s3 : Keep P H H3 := (k1.trans k2).trans k3
  -- the signs, at the end
  have signs : ∀ (x y : Int) (H4 : Hp) (kd fc : Option V), PoolAt H4 P → Keep P H H4 → y ≠ 0 → Bd 256 x → Bd 256 y →
      (tSeq (tIfS (tTest (tOp rEq (tCall spTake [] E0 (tCons (tVar 0) (tCons (tC (.int 2)) tNil))) (tC (.int 1)))) (tAsg (tUn (rU fun i => .int (-i)) (tVar 1)) (gName 1)) tNext)
    (tSeq (tIfS (tTest (tOp rEq (tCall spTake [] E0 (tCons (tVar 0) (tCons (tC (.int 4)) tNil))) (tC (.int 1)))) (tAsg (tUn (rU fun i => .int (-i)) (tVar 2)) (gName 2)) tNext)
    (tRet (tTup (tCons (tVar 1) (tCons (tVar 2) tNil)))))) { nx := fun _ H' => Q .non H', rt := Q } [some (.ref P), some (.int x), some (.int y), kd, fc] H4 := by
    intro x y H4 kd fc hp4 s4 hy bx by'
    simp only [x_seq, x_if, x_test, x_B, x_op, x_un, x_varS, x_var0, x_c, x_I0, x_I, x_U, x_bl, x_ret, x_next, x_asg, x_name, x_set0, x_setS, x_drop, x_cb, x_cons, x_nil, x_int1, x_abs1, x_max2, x_gcd, x_gsub, x_sl, x_part, x_nopart, x_int, x_call, x_lst, x_tup, x_not, x_and, x_or, x_andV, x_orV, x_notV, x_ifE, x_eqI, x_neI, x_eqB, x_neB, x_tbm, x_never, x_make, x_meth, x_isII, x_isIC, x_bool1, decide_eq_true_eq, Bool.false_eq_true, if_false, if_true, List.append_nil, List.nil_append, List.cons_append]
    refine take_of (n := 31) hp4 (by decide) (.lit _ (by decide) (by decide) (by decide)) (by decide) fun r H5 hp5 k5 _ _ => ?_
    simp only [x_seq, x_if, x_test, x_B, x_op, x_un, x_varS, x_var0, x_c, x_I0, x_I, x_U, x_bl, x_ret, x_next, x_asg, x_name, x_set0, x_setS, x_drop, x_cb, x_cons, x_nil, x_int1, x_abs1, x_max2, x_gcd, x_gsub, x_sl, x_part, x_nopart, x_int, x_call, x_lst, x_tup, x_not, x_and, x_or, x_andV, x_orV, x_notV, x_ifE, x_eqI, x_neI, x_eqB, x_neB, x_tbm, x_never, x_make, x_meth, x_isII, x_isIC, x_bool1, decide_eq_true_eq, Bool.false_eq_true, if_false, if_true, List.append_nil, List.nil_append, List.cons_append]
    refine ite2 (fun _ => ?_) fun _ => ?_ <;>
    · refine take_of (n := 31) hp5 (by decide) (.lit _ (by decide) (by decide) (by decide)) (by decide) fun r H6 hp6 k6 _ _ => ?_
      simp only [x_seq, x_if, x_test, x_B, x_op, x_un, x_varS, x_var0, x_c, x_I0, x_I, x_U, x_bl, x_ret, x_next, x_asg, x_name, x_set0, x_setS, x_drop, x_cb, x_cons, x_nil, x_int1, x_abs1, x_max2, x_gcd, x_gsub, x_sl, x_part, x_nopart, x_int, x_call, x_lst, x_tup, x_not, x_and, x_or, x_andV, x_orV, x_notV, x_ifE, x_eqI, x_neI, x_eqB, x_neB, x_tbm, x_never, x_make, x_meth, x_isII, x_isIC, x_bool1, decide_eq_true_eq, Bool.false_eq_true, if_false, if_true, List.append_nil, List.nil_append, List.cons_append]
      refine ite2 (fun _ => ?_) fun _ => ?_
      · exact tup_end k hp6 ((s4.trans k5).trans k6) (by omega) (by first | exact bx | exact bx.neg) by'.neg
      · exact tup_end k hp6 ((s4.trans k5).trans k6) hy (by first | exact bx | exact bx.neg) by'
  have mb := max1_bd bb (by decide)
  have mp := max1_pos (r := below)
  generalize (if below > 1 then below else 1) = below at mb mp
  clear bb b0
  have pos30 : (0 : Int) < ((10 ^ 30 : Nat) : Int) := by decide +kernel
  refine ite2 (fun h0 => ?_) fun _ => ?_
  · -- kind is 0
    refine ite2 (fun h => by omega) fun _ => ?_
    refine ite2 (fun h => by omega) fun _ => ?_
    refine ite2 (fun h => by omega) fun _ => ?_
    simpa only [x_seq, x_if, x_test, x_B, x_op, x_un, x_varS, x_var0, x_c, x_I0, x_I, x_U, x_bl, x_ret, x_next, x_asg, x_name, x_set0, x_setS, x_drop, x_cb, x_cons, x_nil, x_int1, x_abs1, x_max2, x_gcd, x_gsub, x_sl, x_part, x_nopart, x_int, x_call, x_lst, x_tup, x_not, x_and, x_or, x_andV, x_orV, x_notV, x_ifE, x_eqI, x_neI, x_eqB, x_neB, x_tbm, x_never, x_make, x_meth, x_isII, x_isIC, x_bool1, decide_eq_true_eq, Bool.false_eq_true, if_false, if_true, List.append_nil, List.nil_append, List.cons_append] using signs 0 below H3 none none hp3 s3 (by omega) (.lit _ (by decide) (by decide) (by decide)) (mb.mono (by decide))
  have three : ∀ (x y : Int) (H4 : Hp) (kd fc : Option V), PoolAt H4 P → Keep P H H4 → y ≠ 0 → Bd 256 x → Bd 256 y → 
      (if kind = 3 then (tSeq (tIfS (tTest (tOp rEq (tCall spTake [] E0 (tCons (tVar 0) (tCons (tC (.int 2)) tNil))) (tC (.int 1)))) (tAsg (tUn (rU fun i => .int (-i)) (tVar 1)) (gName 1)) tNext)
    (tSeq (tIfS (tTest (tOp rEq (tCall spTake [] E0 (tCons (tVar 0) (tCons (tC (.int 4)) tNil))) (tC (.int 1)))) (tAsg (tUn (rU fun i => .int (-i)) (tVar 2)) (gName 2)) tNext)
    (tRet (tTup (tCons (tVar 1) (tCons (tVar 2) tNil)))))) { nx := fun _ H' => Q .non H', rt := Q } [some (.ref P), some (.int x), some (.int 1), kd, fc] H4
      else (tSeq (tIfS (tTest (tOp rEq (tCall spTake [] E0 (tCons (tVar 0) (tCons (tC (.int 2)) tNil))) (tC (.int 1)))) (tAsg (tUn (rU fun i => .int (-i)) (tVar 1)) (gName 1)) tNext)
    (tSeq (tIfS (tTest (tOp rEq (tCall spTake [] E0 (tCons (tVar 0) (tCons (tC (.int 4)) tNil))) (tC (.int 1)))) (tAsg (tUn (rU fun i => .int (-i)) (tVar 2)) (gName 2)) tNext)
    (tRet (tTup (tCons (tVar 1) (tCons (tVar 2) tNil)))))) { nx := fun _ H' => Q .non H', rt := Q } [some (.ref P), some (.int x), some (.int y), kd, fc] H4) := by
    intro x y H4 kd fc a b c d e
    refine ite2 (fun _ => ?_) fun _ => ?_
    · exact signs x 1 H4 kd fc a b (by decide) d (.lit _ (by decide) (by decide) (by decide))
    · exact signs x y H4 kd fc a b c d e
  have both : ∀ (w : Int) (H4 : Hp), PoolAt H4 P → Keep P H3 H4 → 0 ≤ w → ∀ f : Int, (if w % ((10 ^ 30 : Nat) : Int) > 1 then w % ((10 ^ 30 : Nat) : Int) else 1) = f → 
      0 < f ∧ Bd 100 f ∧ 0 < (if below % ((10 ^ 30 : Nat) : Int) > 1 then below % ((10 ^ 30 : Nat) : Int) else 1) ∧ Bd 100 (if below % ((10 ^ 30 : Nat) : Int) > 1 then below % ((10 ^ 30 : Nat) : Int) else 1) ∧ Bd 100 (above % ((10 ^ 30 : Nat) : Int)) := by
    intro w H4 a b c f hf
    subst hf
    exact ⟨max1_pos, max1_bd (b30.emod pos30) (by decide), max1_pos, max1_bd (b30.emod pos30) (by decide), b30.emod pos30⟩
  have pk := pow_ok (i := 10) (j := 30) (by decide) (by decide) (by decide)
  refine ite2 (fun h1 => ?_) fun h1 => ?_
  · refine size_of hp3 fun w H4 hp4 k4 w0 wb => ?_
    simp only [x_seq, x_if, x_test, x_B, x_op, x_un, x_varS, x_var0, x_c, x_I0, x_I, x_U, x_bl, x_ret, x_next, x_asg, x_name, x_set0, x_setS, x_drop, x_cb, x_cons, x_nil, x_int1, x_abs1, x_max2, x_gcd, x_gsub, x_sl, x_part, x_nopart, x_int, x_call, x_lst, x_tup, x_not, x_and, x_or, x_andV, x_orV, x_notV, x_ifE, x_eqI, x_neI, x_eqB, x_neB, x_tbm, x_never, x_make, x_meth, x_isII, x_isIC, x_bool1, decide_eq_true_eq, Bool.false_eq_true, if_false, if_true, List.append_nil, List.nil_append, List.cons_append, p30]
    have bo := both w H4 hp4 k4 w0
    generalize (if w % ((10 ^ 30 : Nat) : Int) > 1 then w % ((10 ^ 30 : Nat) : Int) else 1) = f at bo ⊢
    obtain ⟨f0, fb, l0, lb, ab'⟩ := bo f rfl
    generalize (if below % ((10 ^ 30 : Nat) : Int) > 1 then below % ((10 ^ 30 : Nat) : Int) else 1) = low at l0 lb ⊢
    generalize above % ((10 ^ 30 : Nat) : Int) = abo at ab' ⊢
    refine ⟨pk, pos30, pk, pos30, ab'.ok fb (by decide) (by decide) (by decide), pk, pos30, lb.ok fb (by decide) (by decide) (by decide), ?_⟩
    simpa only [x_seq, x_if, x_test, x_B, x_op, x_un, x_varS, x_var0, x_c, x_I0, x_I, x_U, x_bl, x_ret, x_next, x_asg, x_name, x_set0, x_setS, x_drop, x_cb, x_cons, x_nil, x_int1, x_abs1, x_max2, x_gcd, x_gsub, x_sl, x_part, x_nopart, x_int, x_call, x_lst, x_tup, x_not, x_and, x_or, x_andV, x_orV, x_notV, x_ifE, x_eqI, x_neI, x_eqB, x_neB, x_tbm, x_never, x_make, x_meth, x_isII, x_isIC, x_bool1, decide_eq_true_eq, Bool.false_eq_true, if_false, if_true, List.append_nil, List.nil_append, List.cons_append] using three (abo * f) (low * f) H4 none none hp4 (s3.trans k4) (Int.mul_ne_zero (by omega) (by omega)) ((ab'.mul fb).mono (by decide)) ((lb.mul fb).mono (by decide))
  · refine ite2 (fun h2 => ?_) fun h2 => ?_
    · refine size_of hp3 fun w H4 hp4 k4 w0 wb => ?_
      simp only [x_seq, x_if, x_test, x_B, x_op, x_un, x_varS, x_var0, x_c, x_I0, x_I, x_U, x_bl, x_ret, x_next, x_asg, x_name, x_set0, x_setS, x_drop, x_cb, x_cons, x_nil, x_int1, x_abs1, x_max2, x_gcd, x_gsub, x_sl, x_part, x_nopart, x_int, x_call, x_lst, x_tup, x_not, x_and, x_or, x_andV, x_orV, x_notV, x_ifE, x_eqI, x_neI, x_eqB, x_neB, x_tbm, x_never, x_make, x_meth, x_isII, x_isIC, x_bool1, decide_eq_true_eq, Bool.false_eq_true, if_false, if_true, List.append_nil, List.nil_append, List.cons_append, p30]
      have bo := both w H4 hp4 k4 w0
      generalize (if w % ((10 ^ 30 : Nat) : Int) > 1 then w % ((10 ^ 30 : Nat) : Int) else 1) = f at bo ⊢
      obtain ⟨f0, fb, l0, lb, ab'⟩ := bo f rfl
      generalize (if below % ((10 ^ 30 : Nat) : Int) > 1 then below % ((10 ^ 30 : Nat) : Int) else 1) = low at l0 lb ⊢
      generalize above % ((10 ^ 30 : Nat) : Int) = abo at ab' ⊢
      refine ⟨pk, pos30, pk, pos30, ab'.ok fb (by decide) (by decide) (by decide), pk, pos30, lb.ok fb (by decide) (by decide) (by decide), ?_⟩
      simpa only [x_seq, x_if, x_test, x_B, x_op, x_un, x_varS, x_var0, x_c, x_I0, x_I, x_U, x_bl, x_ret, x_next, x_asg, x_name, x_set0, x_setS, x_drop, x_cb, x_cons, x_nil, x_int1, x_abs1, x_max2, x_gcd, x_gsub, x_sl, x_part, x_nopart, x_int, x_call, x_lst, x_tup, x_not, x_and, x_or, x_andV, x_orV, x_notV, x_ifE, x_eqI, x_neI, x_eqB, x_neB, x_tbm, x_never, x_make, x_meth, x_isII, x_isIC, x_bool1, decide_eq_true_eq, Bool.false_eq_true, if_false, if_true, List.append_nil, List.nil_append, List.cons_append] using three (abo * f) (low * f) H4 none none hp4 (s3.trans k4) (Int.mul_ne_zero (by omega) (by omega)) ((ab'.mul fb).mono (by decide)) ((lb.mul fb).mono (by decide))
    · simpa only [x_seq, x_if, x_test, x_B, x_op, x_un, x_varS, x_var0, x_c, x_I0, x_I, x_U, x_bl, x_ret, x_next, x_asg, x_name, x_set0, x_setS, x_drop, x_cb, x_cons, x_nil, x_int1, x_abs1, x_max2, x_gcd, x_gsub, x_sl, x_part, x_nopart, x_int, x_call, x_lst, x_tup, x_not, x_and, x_or, x_andV, x_orV, x_notV, x_ifE, x_eqI, x_neI, x_eqB, x_neB, x_tbm, x_never, x_make, x_meth, x_isII, x_isIC, x_bool1, decide_eq_true_eq, Bool.false_eq_true, if_false, if_true, List.append_nil, List.nil_append, List.cons_append] using three above below H3 none none hp3 s3 (by omega) (ab.mono (by decide)) (mb.mono (by decide))
/-! ### the other draws -/
/-- the second fraction: as the first, beside a first that stands at o -/
def spSecond : Sp := fun vs H Q _ => ∃ (P o : Addr) (x y : Int), vs = [.ref P, .ref o] ∧ PoolAt H P ∧ TupAt H o x y ∧ y ≠ 0 ∧ Bd 256 x ∧ Bd 256 y ∧ GivesT P H Q
theorem GivesT.after {P : Addr} {H H1 : Hp} {Q : VK} (k : GivesT P H Q) (s : Keep P H H1) : GivesT P H1 Q := fun o H' x y a b c => k o H' x y a b (s.trans c)
theorem at0 {v w : V} : atI [v, w] 0 = some v := rfl
theorem at1 {v w : V} : atI [v, w] 1 = some w := rfl
theorem abs_if2 (a : Int) : (if a < 0 then -a else a) = (a.natAbs : Int) := abs_if a
theorem le58' : 10 ^ 58 ≤ 2 ^ 193 := by decide +kernel
def t_second (K : PySem.W.Frag) (C Z : Addr) (E : XK) : TS :=
    (tSeq (tAsg (tCall spTake [] E0 (tCons (tVar 0) (tCons (tC (.int 8)) tNil))) (gName 2))
    (tSeq (tIfS (tAnd (tTest (tOp (rI0 fun i j => .bl (decide (i < j))) (tVar 2) (tC (.int 2)))) (tAnd (tTest (tOp (rI0 fun i j => .bl (decide (i < j))) (tCB rAbs1 (tCons (tOp rIx1 (tVar 1) (tC (.int 0))) tNil)) (tOp (rI CPow fun i j => .int (i ^ j.toNat)) (tC (.int 10)) (tC (.int 58))))) (tTest (tOp (rI0 fun i j => .bl (decide (i < j))) (tCB rAbs1 (tCons (tOp rIx1 (tVar 1) (tC (.int 1))) tNil)) (tOp (rI CPow fun i j => .int (i ^ j.toNat)) (tC (.int 10)) (tC (.int 58))))))) (tSeq (tAsg (tOp (rI0 fun i j => .int (i + j)) (tC (.int 1)) (tCall spTake [] E0 (tCons (tVar 0) (tCons (tC (.int 98)) tNil)))) (gName 3))
    (tRet (tTup (tCons (tOp (rI0 fun i j => .int (i - j)) (tOp (rI0 fun i j => .int (i + j)) (tOp (rI IntMulOk fun i j => .int (i * j)) (tOp rIx1 (tVar 1) (tC (.int 0))) (tVar 3)) (tCall spTake [] E0 (tCons (tVar 0) (tCons (tC (.int 3)) tNil)))) (tC (.int 1))) (tCons (tOp (rI IntMulOk fun i j => .int (i * j)) (tOp rIx1 (tVar 1) (tC (.int 1))) (tVar 3)) tNil))))) tNext)
    (tSeq (tIfS (tTest (tOp (rI0 fun i j => .bl (decide (i < j))) (tVar 2) (tC (.int 2)))) (tRet (tTup (tCons (tUn (rU fun i => .int (-i)) (tOp rIx1 (tVar 1) (tC (.int 0)))) (tCons (tUn (rU fun i => .int (-i)) (tOp rIx1 (tVar 1) (tC (.int 1)))) tNil)))) tNext)
    (tSeq (tIfS (tTest (tOp rEq (tVar 2) (tC (.int 2)))) (tRet (tTup (tCons (tUn (rU fun i => .int (-i)) (tOp rIx1 (tVar 1) (tC (.int 0)))) (tCons (tOp rIx1 (tVar 1) (tC (.int 1))) tNil)))) tNext)
    (tSeq (tIfS (tAnd (tTest (tOp rEq (tVar 2) (tC (.int 3)))) (tTest (tOp rNe (tOp rIx1 (tVar 1) (tC (.int 0))) (tC (.int 0))))) (tRet (tTup (tCons (tOp rIx1 (tVar 1) (tC (.int 1))) (tCons (tOp rIx1 (tVar 1) (tC (.int 0))) tNil)))) tNext)
    (tRet (tCall spFraction [] E0 (tCons (tVar 0) tNil))))))))
theorem pure_second {K : PySem.W.Frag} {C Z : Addr} (vs : List V) (H : Hp) (Q : VK) (E : XK) (h : spSecond vs H Q E) : t_second K C Z E { nx := fun _ H' => Q .non H', rt := Q } (start ["pool", "one", "kind", "factor"] vs) H := by
  obtain ⟨P, o, x, y, rfl, hp, ho, hy, bx, by', k⟩ := h
  show t_second K C Z E _ [some (.ref P), some (.ref o), none, none] H
  unfold t_second
  simp only [x_seq, x_if, x_test, x_B, x_op, x_un, x_varS, x_var0, x_c, x_I0, x_I, x_U, x_bl, x_ret, x_next, x_asg, x_name, x_set0, x_setS, x_drop, x_cb, x_cons, x_nil, x_int1, x_abs1, x_max2, x_gcd, x_gsub, x_sl, x_part, x_nopart, x_int, x_call, x_lst, x_tup, x_not, x_and, x_or, x_andV, x_orV, x_notV, x_ifE, x_eqI, x_neI, x_eqB, x_neB, x_tbm, x_never, x_make, x_meth, x_isII, x_isIC, x_bool1, decide_eq_true_eq, Bool.false_eq_true, if_false, if_true, List.append_nil, List.nil_append, List.cons_append]
  refine take_of (n := 31) hp (by decide) (.lit _ (by decide) (by decide) (by decide)) (by decide) fun kind H1 hp1 k1 _ _ => ?_
  have ho1 := ho.keep hp k1
  simp only [x_seq, x_if, x_test, x_B, x_op, x_un, x_varS, x_var0, x_c, x_I0, x_I, x_U, x_bl, x_ret, x_next, x_asg, x_name, x_set0, x_setS, x_drop, x_cb, x_cons, x_nil, x_int1, x_abs1, x_max2, x_gcd, x_gsub, x_sl, x_part, x_nopart, x_int, x_call, x_lst, x_tup, x_not, x_and, x_or, x_andV, x_orV, x_notV, x_ifE, x_eqI, x_neI, x_eqB, x_neB, x_tbm, x_never, x_make, x_meth, x_isII, x_isIC, x_bool1, decide_eq_true_eq, Bool.false_eq_true, if_false, if_true, List.append_nil, List.nil_append, List.cons_append, p58, x_ixT ho1 at0, x_ixT ho1 at1, abs_if]
  have pk := pow_ok (i := 10) (j := 58) (by decide) (by decide) (by decide)
  have k' := k.after k1
  have rest : (if kind < 2 then [V.int (-x), .int (-y)].length ≤ sizeLine ∧ ∀ p, H1 p = none → Q (.ref p) (upd H1 p (.tup [.int (-x), .int (-y)]))
    else if kind = 2 then [V.int (-x), .int y].length ≤ sizeLine ∧ ∀ p, H1 p = none → Q (.ref p) (upd H1 p (.tup [.int (-x), .int y]))
    else if kind = 3 then (if (!decide (x = 0)) = true then [V.int y, .int x].length ≤ sizeLine ∧ ∀ p, H1 p = none → Q (.ref p) (upd H1 p (.tup [.int y, .int x])) else spFraction [.ref P] H1 Q E0) else spFraction [.ref P] H1 Q E0) := by
    refine ite2 (fun _ => ?_) fun _ => ite2 (fun _ => ?_) fun _ => ite2 (fun _ => ite2 (fun hx => ?_) fun _ => ?_) fun _ => ?_
    · exact tup_end k' hp1 (Keep.refl _ _) (by omega) bx.neg by'.neg
    · exact tup_end k' hp1 (Keep.refl _ _) hy bx.neg by'
    · exact tup_end k' hp1 (Keep.refl _ _) (by simpa using hx) by' bx
    · exact ⟨P, rfl, hp1, k'⟩
    · exact ⟨P, rfl, hp1, k'⟩
  have hL : ((10 ^ 58 : Nat) : Int) ≤ ((2 ^ 193 : Nat) : Int) := Int.ofNat_le.mpr le58'
  generalize ((10 ^ 58 : Nat) : Int) = L at hL ⊢
  refine ite2 (fun hk => ⟨pk, ?_⟩) fun hk => ?_
  · refine ite2 (fun hx => ⟨pk, ?_⟩) fun _ => ?_
    · refine ite2 (fun hyy => ?_) fun _ => ?_
      · have sx : Bd 193 x := Int.ofNat_lt.mp (Int.lt_of_lt_of_le hx hL)
        have sy : Bd 193 y := Int.ofNat_lt.mp (Int.lt_of_lt_of_le hyy hL)
        refine take_of (n := 31) hp1 (by decide) (.lit _ (by decide) (by decide) (by decide)) (by decide) fun f H2 hp2 k2 f0 f1 => ?_
        have ho2 := ho1.keep hp1 k2
        simp only [x_seq, x_if, x_test, x_B, x_op, x_un, x_varS, x_var0, x_c, x_I0, x_I, x_U, x_bl, x_ret, x_next, x_asg, x_name, x_set0, x_setS, x_drop, x_cb, x_cons, x_nil, x_int1, x_abs1, x_max2, x_gcd, x_gsub, x_sl, x_part, x_nopart, x_int, x_call, x_lst, x_tup, x_not, x_and, x_or, x_andV, x_orV, x_notV, x_ifE, x_eqI, x_neI, x_eqB, x_neB, x_tbm, x_never, x_make, x_meth, x_isII, x_isIC, x_bool1, decide_eq_true_eq, Bool.false_eq_true, if_false, if_true, List.append_nil, List.nil_append, List.cons_append, x_ixT ho2 at0]
        have fb : Bd 31 (1 + f) := .lit _ (by omega) (by omega) (by decide)
        refine ⟨sx.ok fb (by decide) (by decide) (by decide), take_of (n := 31) hp2 (by decide) (.lit _ (by decide) (by decide) (by decide)) (by decide) fun r H3 hp3 k3 r0 r1 => ?_⟩
        have ho3 := ho2.keep hp2 k3
        simp only [x_seq, x_if, x_test, x_B, x_op, x_un, x_varS, x_var0, x_c, x_I0, x_I, x_U, x_bl, x_ret, x_next, x_asg, x_name, x_set0, x_setS, x_drop, x_cb, x_cons, x_nil, x_int1, x_abs1, x_max2, x_gcd, x_gsub, x_sl, x_part, x_nopart, x_int, x_call, x_lst, x_tup, x_not, x_and, x_or, x_andV, x_orV, x_notV, x_ifE, x_eqI, x_neI, x_eqB, x_neB, x_tbm, x_never, x_make, x_meth, x_isII, x_isIC, x_bool1, decide_eq_true_eq, Bool.false_eq_true, if_false, if_true, List.append_nil, List.nil_append, List.cons_append, x_ixT ho3 at1]
        refine ⟨sy.ok fb (by decide) (by decide) (by decide), tup_end k' hp3 (k2.trans k3) (Int.mul_ne_zero hy (by omega)) ?_ ((sy.mul fb).mono (by decide))⟩
        have b1 : Bd 225 (x * (1 + f) + r) := ((sx.mul fb).add (.lit (n := 224) _ r0 (by omega) (by decide)))
        exact ((b1.sub (.one (by decide))).mono (by decide))
      · simpa only [x_seq, x_if, x_test, x_B, x_op, x_un, x_varS, x_var0, x_c, x_I0, x_I, x_U, x_bl, x_ret, x_next, x_asg, x_name, x_set0, x_setS, x_drop, x_cb, x_cons, x_nil, x_int1, x_abs1, x_max2, x_gcd, x_gsub, x_sl, x_part, x_nopart, x_int, x_call, x_lst, x_tup, x_not, x_and, x_or, x_andV, x_orV, x_notV, x_ifE, x_eqI, x_neI, x_eqB, x_neB, x_tbm, x_never, x_make, x_meth, x_isII, x_isIC, x_bool1, decide_eq_true_eq, Bool.false_eq_true, if_false, if_true, List.append_nil, List.nil_append, List.cons_append] using rest
    · simpa only [x_seq, x_if, x_test, x_B, x_op, x_un, x_varS, x_var0, x_c, x_I0, x_I, x_U, x_bl, x_ret, x_next, x_asg, x_name, x_set0, x_setS, x_drop, x_cb, x_cons, x_nil, x_int1, x_abs1, x_max2, x_gcd, x_gsub, x_sl, x_part, x_nopart, x_int, x_call, x_lst, x_tup, x_not, x_and, x_or, x_andV, x_orV, x_notV, x_ifE, x_eqI, x_neI, x_eqB, x_neB, x_tbm, x_never, x_make, x_meth, x_isII, x_isIC, x_bool1, decide_eq_true_eq, Bool.false_eq_true, if_false, if_true, List.append_nil, List.nil_append, List.cons_append] using rest
  · simpa only [x_seq, x_if, x_test, x_B, x_op, x_un, x_varS, x_var0, x_c, x_I0, x_I, x_U, x_bl, x_ret, x_next, x_asg, x_name, x_set0, x_setS, x_drop, x_cb, x_cons, x_nil, x_int1, x_abs1, x_max2, x_gcd, x_gsub, x_sl, x_part, x_nopart, x_int, x_call, x_lst, x_tup, x_not, x_and, x_or, x_andV, x_orV, x_notV, x_ifE, x_eqI, x_neI, x_eqB, x_neB, x_tbm, x_never, x_make, x_meth, x_isII, x_isIC, x_bool1, decide_eq_true_eq, Bool.false_eq_true, if_false, if_true, List.append_nil, List.nil_append, List.cons_append] using rest
/-- an int beside -/
def spBeside : Sp := fun vs H Q _ => ∃ (P o : Addr) (x y : Int), vs = [.ref P, .ref o] ∧ PoolAt H P ∧ TupAt H o x y ∧ y ≠ 0 ∧ Bd 256 x ∧ Bd 256 y ∧ ∀ (r : Int) (H' : Hp), PoolAt H' P → Keep P H H' → Bd 256 r → Q (.int r) H'
theorem fdiv_le {x y : Int} (hy : y ≠ 0) : (x.fdiv y).natAbs ≤ x.natAbs := Int.natAbs_fdiv_le_natAbs x y
def t_beside (K : PySem.W.Frag) (C Z : Addr) (E : XK) : TS :=
    (tSeq (tAsg (tCall spTake [] E0 (tCons (tVar 0) (tCons (tC (.int 6)) tNil))) (gName 2))
    (tSeq (tIfS (tTest (tOp rEq (tVar 2) (tC (.int 0)))) (tRet (tOp rIx1 (tVar 1) (tC (.int 0)))) tNext)
    (tSeq (tIfS (tTest (tOp rEq (tVar 2) (tC (.int 1)))) (tRet (tOp (rI CDivF fun i j => .int (i.fdiv j)) (tOp rIx1 (tVar 1) (tC (.int 0))) (tOp rIx1 (tVar 1) (tC (.int 1))))) tNext)
    (tSeq (tIfS (tTest (tOp rEq (tVar 2) (tC (.int 2)))) (tRet (tC (.int 0))) tNext)
    (tSeq (tAsg (tCall spSize [] E0 (tCons (tVar 0) tNil)) (gName 3))
    (tSeq (tIfS (tTest (tOp rEq (tCall spTake [] E0 (tCons (tVar 0) (tCons (tC (.int 2)) tNil))) (tC (.int 1)))) (tRet (tUn (rU fun i => .int (-i)) (tVar 3))) tNext)
    (tRet (tVar 3))))))))
theorem pure_beside {K : PySem.W.Frag} {C Z : Addr} (vs : List V) (H : Hp) (Q : VK) (E : XK) (h : spBeside vs H Q E) : t_beside K C Z E { nx := fun _ H' => Q .non H', rt := Q } (start ["pool", "one", "kind", "number"] vs) H := by
  obtain ⟨P, o, x, y, rfl, hp, ho, hy, bx, by', k⟩ := h
  show t_beside K C Z E _ [some (.ref P), some (.ref o), none, none] H
  unfold t_beside
  simp only [x_seq, x_if, x_test, x_B, x_op, x_un, x_varS, x_var0, x_c, x_I0, x_I, x_U, x_bl, x_ret, x_next, x_asg, x_name, x_set0, x_setS, x_drop, x_cb, x_cons, x_nil, x_int1, x_abs1, x_max2, x_gcd, x_gsub, x_sl, x_part, x_nopart, x_int, x_call, x_lst, x_tup, x_not, x_and, x_or, x_andV, x_orV, x_notV, x_ifE, x_eqI, x_neI, x_eqB, x_neB, x_tbm, x_never, x_make, x_meth, x_isII, x_isIC, x_bool1, decide_eq_true_eq, Bool.false_eq_true, if_false, if_true, List.append_nil, List.nil_append, List.cons_append]
  refine take_of (n := 31) hp (by decide) (.lit _ (by decide) (by decide) (by decide)) (by decide) fun kind H1 hp1 k1 _ _ => ?_
  have ho1 := ho.keep hp k1
  simp only [x_seq, x_if, x_test, x_B, x_op, x_un, x_varS, x_var0, x_c, x_I0, x_I, x_U, x_bl, x_ret, x_next, x_asg, x_name, x_set0, x_setS, x_drop, x_cb, x_cons, x_nil, x_int1, x_abs1, x_max2, x_gcd, x_gsub, x_sl, x_part, x_nopart, x_int, x_call, x_lst, x_tup, x_not, x_and, x_or, x_andV, x_orV, x_notV, x_ifE, x_eqI, x_neI, x_eqB, x_neB, x_tbm, x_never, x_make, x_meth, x_isII, x_isIC, x_bool1, decide_eq_true_eq, Bool.false_eq_true, if_false, if_true, List.append_nil, List.nil_append, List.cons_append, x_ixT ho1 at0, x_ixT ho1 at1]
  refine ite2 (fun _ => k _ _ hp1 k1 bx) fun _ => ite2 (fun _ => ⟨any_div hy (by'.mono (by decide)), k _ _ hp1 k1 (bx.of (fdiv_le hy))⟩) fun _ => ite2 (fun _ => k _ _ hp1 k1 (.lit _ (by decide) (by decide) (by decide))) fun _ => ?_
  refine size_of hp1 fun z H2 hp2 k2 z0 zb => ?_
  simp only [x_seq, x_if, x_test, x_B, x_op, x_un, x_varS, x_var0, x_c, x_I0, x_I, x_U, x_bl, x_ret, x_next, x_asg, x_name, x_set0, x_setS, x_drop, x_cb, x_cons, x_nil, x_int1, x_abs1, x_max2, x_gcd, x_gsub, x_sl, x_part, x_nopart, x_int, x_call, x_lst, x_tup, x_not, x_and, x_or, x_andV, x_orV, x_notV, x_ifE, x_eqI, x_neI, x_eqB, x_neB, x_tbm, x_never, x_make, x_meth, x_isII, x_isIC, x_bool1, decide_eq_true_eq, Bool.false_eq_true, if_false, if_true, List.append_nil, List.nil_append, List.cons_append]
  refine take_of (n := 31) hp2 (by decide) (.lit _ (by decide) (by decide) (by decide)) (by decide) fun r H3 hp3 k3 r0 r1 => ?_
  simp only [x_seq, x_if, x_test, x_B, x_op, x_un, x_varS, x_var0, x_c, x_I0, x_I, x_U, x_bl, x_ret, x_next, x_asg, x_name, x_set0, x_setS, x_drop, x_cb, x_cons, x_nil, x_int1, x_abs1, x_max2, x_gcd, x_gsub, x_sl, x_part, x_nopart, x_int, x_call, x_lst, x_tup, x_not, x_and, x_or, x_andV, x_orV, x_notV, x_ifE, x_eqI, x_neI, x_eqB, x_neB, x_tbm, x_never, x_make, x_meth, x_isII, x_isIC, x_bool1, decide_eq_true_eq, Bool.false_eq_true, if_false, if_true, List.append_nil, List.nil_append, List.cons_append]
  exact ite2 (fun _ => k _ _ hp3 ((k1.trans k2).trans k3) (zb.neg.mono (by decide))) fun _ => k _ _ hp3 ((k1.trans k2).trans k3) (zb.mono (by decide))
/-! ### what is told beside what is due -/
def spRight (C : Addr) : Sp := fun vs H Q _ => ∃ (p o : Addr) (t b x y : Int), vs = [.ref p, .ref o] ∧ RatAt C H p t b ∧ TupAt H o x y ∧ Norm t b x y ∧ Bd 4000 t ∧ Bd 4000 b ∧ Bd 4000 x ∧ Bd 4000 y ∧ Q (.bl true) H
theorem int_of {i : Int} {H : Hp} {Q : VK} {E : XK} (k : Q (.bl true) H) : spInteger [.int i] H Q E := ⟨i, rfl, k⟩
def t_right (K : PySem.W.Frag) (C Z : Addr) (E : XK) : TS :=
    (tSeq (tIfS (tOr (tNot (tB (tCB (rIsA C) (tCons (tVar 0) (tCons (tC (.ref C)) tNil))))) (tOr (tNot (tB (tCall spInteger [] E0 (tCons (tUn (rFld C "top") (tVar 0)) tNil)))) (tNot (tB (tCall spInteger [] E0 (tCons (tUn (rFld C "bottom") (tVar 0)) tNil)))))) (tRet (tC (.bl false))) tNext)
    (tSeq (tIfS (tOr (tTest (tOp (rI0 fun i j => .bl (decide (i < j))) (tUn (rFld C "bottom") (tVar 0)) (tC (.int 1)))) (tTest (tOp rNe (tOp (rI IntMulOk fun i j => .int (i * j)) (tUn (rFld C "top") (tVar 0)) (tOp rIx1 (tVar 1) (tC (.int 1)))) (tOp (rI IntMulOk fun i j => .int (i * j)) (tOp rIx1 (tVar 1) (tC (.int 0))) (tUn (rFld C "bottom") (tVar 0)))))) (tRet (tC (.bl false))) tNext)
    (tRet (tOp rEq (tCall spCommon [] E0 (tCons (tUn (rFld C "top") (tVar 0)) (tCons (tUn (rFld C "bottom") (tVar 0)) tNil))) (tC (.int 1))))))
theorem pure_right {K : PySem.W.Frag} {C Z : Addr} (vs : List V) (H : Hp) (Q : VK) (E : XK) (h : spRight C vs H Q E) : t_right K C Z E { nx := fun _ H' => Q .non H', rt := Q } (start ["told", "due"] vs) H := by
  obtain ⟨p, o, t, b, x, y, rfl, ⟨dx, hp⟩, ho, hn, bt, bb, bx, by', k⟩ := h
  show t_right K C Z E _ [some (.ref p), some (.ref o)] H
  unfold t_right
  simp only [x_seq, x_if, x_test, x_B, x_op, x_un, x_varS, x_var0, x_c, x_I0, x_I, x_U, x_bl, x_ret, x_next, x_asg, x_name, x_set0, x_setS, x_drop, x_cb, x_cons, x_nil, x_int1, x_abs1, x_max2, x_gcd, x_gsub, x_sl, x_part, x_nopart, x_int, x_call, x_lst, x_tup, x_not, x_and, x_or, x_andV, x_orV, x_notV, x_ifE, x_eqI, x_neI, x_eqB, x_neB, x_tbm, x_never, x_make, x_meth, x_isII, x_isIC, x_bool1, decide_eq_true_eq, Bool.false_eq_true, if_false, if_true, List.append_nil, List.nil_append, List.cons_append, x_isRC hp, x_top hp, x_bot hp, x_ixT ho at0, x_ixT ho at1, Bool.not_true]
  refine int_of ?_
  simp only [x_seq, x_if, x_test, x_B, x_op, x_un, x_varS, x_var0, x_c, x_I0, x_I, x_U, x_bl, x_ret, x_next, x_asg, x_name, x_set0, x_setS, x_drop, x_cb, x_cons, x_nil, x_int1, x_abs1, x_max2, x_gcd, x_gsub, x_sl, x_part, x_nopart, x_int, x_call, x_lst, x_tup, x_not, x_and, x_or, x_andV, x_orV, x_notV, x_ifE, x_eqI, x_neI, x_eqB, x_neB, x_tbm, x_never, x_make, x_meth, x_isII, x_isIC, x_bool1, decide_eq_true_eq, Bool.false_eq_true, if_false, if_true, List.append_nil, List.nil_append, List.cons_append, x_top hp, x_bot hp, x_ixT ho at0, x_ixT ho at1, Bool.not_true]
  refine int_of ?_
  simp only [x_seq, x_if, x_test, x_B, x_op, x_un, x_varS, x_var0, x_c, x_I0, x_I, x_U, x_bl, x_ret, x_next, x_asg, x_name, x_set0, x_setS, x_drop, x_cb, x_cons, x_nil, x_int1, x_abs1, x_max2, x_gcd, x_gsub, x_sl, x_part, x_nopart, x_int, x_call, x_lst, x_tup, x_not, x_and, x_or, x_andV, x_orV, x_notV, x_ifE, x_eqI, x_neI, x_eqB, x_neB, x_tbm, x_never, x_make, x_meth, x_isII, x_isIC, x_bool1, decide_eq_true_eq, Bool.false_eq_true, if_false, if_true, List.append_nil, List.nil_append, List.cons_append, x_top hp, x_bot hp, x_ixT ho at0, x_ixT ho at1, Bool.not_true]
  have e := hn.eq
  have ps := hn.pos
  refine ite2 (fun h => by omega) fun _ => ?_
  refine ⟨bt.ok by' (by decide) (by decide) (by decide), bx.ok bb (by decide) (by decide) (by decide), ?_⟩
  refine ite2 (fun h => by simp [e] at h) fun _ => ?_
  refine ⟨t, b, rfl, bb.mono (by decide), ?_⟩
  simp only [x_seq, x_if, x_test, x_B, x_op, x_un, x_varS, x_var0, x_c, x_I0, x_I, x_U, x_bl, x_ret, x_next, x_asg, x_name, x_set0, x_setS, x_drop, x_cb, x_cons, x_nil, x_int1, x_abs1, x_max2, x_gcd, x_gsub, x_sl, x_part, x_nopart, x_int, x_call, x_lst, x_tup, x_not, x_and, x_or, x_andV, x_orV, x_notV, x_ifE, x_eqI, x_neI, x_eqB, x_neB, x_tbm, x_never, x_make, x_meth, x_isII, x_isIC, x_bool1, decide_eq_true_eq, Bool.false_eq_true, if_false, if_true, List.append_nil, List.nil_append, List.cons_append]
  have c := hn.cop
  rw [c]
  exact k
def spSide : Sp := fun vs H Q _ => ∃ x y : Int, vs = [.int x, .int y] ∧ y ≠ 0 ∧ Q (.int (x.sign * y.sign)) H
def t_side (K : PySem.W.Frag) (C Z : Addr) (E : XK) : TS :=
    (tSeq (tIfS (tTest (tOp rEq (tVar 0) (tC (.int 0)))) (tRet (tC (.int 0))) tNext)
    (tSeq (tIfS (tTest (tOp rEq (tOp (rI0 fun i j => .bl (decide (j < i))) (tVar 0) (tC (.int 0))) (tOp (rI0 fun i j => .bl (decide (j < i))) (tVar 1) (tC (.int 0))))) (tRet (tC (.int 1))) tNext)
    (tRet (tUn (rU fun i => .int (-i)) (tC (.int 1))))))
theorem pure_side {K : PySem.W.Frag} {C Z : Addr} (vs : List V) (H : Hp) (Q : VK) (E : XK) (h : spSide vs H Q E) : t_side K C Z E { nx := fun _ H' => Q .non H', rt := Q } (start ["above", "below"] vs) H := by
  obtain ⟨x, y, rfl, hy, k⟩ := h
  show t_side K C Z E _ [some (.int x), some (.int y)] H
  unfold t_side
  simp only [x_seq, x_if, x_test, x_B, x_op, x_un, x_varS, x_var0, x_c, x_I0, x_I, x_U, x_bl, x_ret, x_next, x_asg, x_name, x_set0, x_setS, x_drop, x_cb, x_cons, x_nil, x_int1, x_abs1, x_max2, x_gcd, x_gsub, x_sl, x_part, x_nopart, x_int, x_call, x_lst, x_tup, x_not, x_and, x_or, x_andV, x_orV, x_notV, x_ifE, x_eqI, x_neI, x_eqB, x_neB, x_tbm, x_never, x_make, x_meth, x_isII, x_isIC, x_bool1, decide_eq_true_eq, Bool.false_eq_true, if_false, if_true, List.append_nil, List.nil_append, List.cons_append]
  refine ite2 (fun h => ?_) fun h => ?_
  · subst h
    simpa using k
  · rcases Int.lt_or_lt_of_ne h with h1 | h1 <;> rcases Int.lt_or_lt_of_ne hy with h2 | h2
    · rw [Int.sign_eq_neg_one_of_neg h1, Int.sign_eq_neg_one_of_neg h2] at k
      rw [decide_eq_false (by omega), decide_eq_false (by omega), if_pos rfl]
      exact k
    · rw [Int.sign_eq_neg_one_of_neg h1, Int.sign_eq_one_of_pos h2] at k
      rw [decide_eq_false (by omega), decide_eq_true (by omega), if_neg (by decide)]
      exact k
    · rw [Int.sign_eq_one_of_pos h1, Int.sign_eq_neg_one_of_neg h2] at k
      rw [decide_eq_true (by omega), decide_eq_false (by omega), if_neg (by decide)]
      exact k
    · rw [Int.sign_eq_one_of_pos h1, Int.sign_eq_one_of_pos h2] at k
      rw [decide_eq_true (by omega), decide_eq_true (by omega), if_pos rfl]
      exact k
end SpX

set_option Elab.async false
set_option linter.all false
set_option maxRecDepth 100000
set_option maxHeartbeats 2000000
namespace SpX
open PySem PySem.Spec L2
/-! ### what an expression gives, in every heap that holds all of H -/
def IntE (H : Hp) (σ : L2.St) (te : TE) (x : Int) : Prop := ∀ (H1 : Hp) (Q : VK), Same H H1 → Q (.int x) H1 → te σ H1 Q
def TupE (H : Hp) (σ : L2.St) (te : TE) (x y : Int) : Prop := ∀ (H1 : Hp) (Q : VK), Same H H1 → (∀ o H2, Same H1 H2 → TupAt H2 o x y → Q (.ref o) H2) → te σ H1 Q
def RatE (C : Addr) (H : Hp) (σ : L2.St) (te : TE) (x y : Int) : Prop := ∀ (H1 : Hp) (Q : VK), Same H H1 → Gives C H1 x y Q → te σ H1 Q
/-- a row: a ratio beside what it is to be -/
def RowOk (C : Addr) (H : Hp) (v : V) : Prop := ∃ (q r o : Addr) (t b x y : Int), v = .ref q ∧ H q = some (.tup [.ref r, .ref o]) ∧ RatAt C H r t b ∧ TupAt H o x y ∧ Norm t b x y ∧ y ≠ 0 ∧ Bd 2000 x ∧ Bd 2000 y
def RowE (C : Addr) (H : Hp) (σ : L2.St) (te : TE) : Prop := ∀ (H1 : Hp) (Q : VK), Same H H1 → (∀ v H2, Same H1 H2 → RowOk C H2 v → Q v H2) → te σ H1 Q
theorem RowOk.keep {C p : Addr} {H H' : Hp} {v : V} {xs : List V} (h : RowOk C H v) (hp : H p = some (.lst xs)) (k : Keep p H H') : RowOk C H' v := by
  obtain ⟨q, r, o, t, b, x, y, rfl, hq, ⟨dx, hr⟩, ho, hn, hy, bx, by'⟩ := h
  have nr : r ≠ p := fun e => by
    subst e
    rw [hp] at hr
    cases hr
  exact ⟨q, r, o, t, b, x, y, rfl, k _ _ (lst_tup hp hq) hq, ⟨dx, k _ _ nr hr⟩, k _ _ (lst_tup hp ho) ho, hn, hy, bx, by'⟩
theorem RowOk.same {C : Addr} {H H' : Hp} {v : V} (h : RowOk C H v) (k : Same H H') : RowOk C H' v := by
  obtain ⟨q, r, o, t, b, x, y, rfl, hq, hr, ho, hn, hy, bx, by'⟩ := h
  exact ⟨q, r, o, t, b, x, y, rfl, k _ _ hq, hr.same k, k _ _ ho, hn, hy, bx, by'⟩
section
variable {C Z : Addr} {H : Hp} {σ : L2.St} {te tf tx ty td : TE} {x y x1 y1 x2 y2 u : Int} {N : Int → Int → Int → Int → Int}
theorem two_ok {a b : V} : [a, b].length ≤ sizeLine := by show 2 ≤ sizeLine; decide
theorem TupE.lit (hx : IntE H σ tx x) (hy : IntE H σ ty y) : TupE H σ (tTup (tCons tx (tCons ty tNil))) x y := by
  intro H1 Q s k
  rw [x_tup, x_cons]
  refine hx H1 _ s ?_
  rw [x_cons]
  refine hy H1 _ s ?_
  rw [x_nil]
  exact ⟨two_ok, fun p hp => k p _ (Same.new hp) upd_same⟩
theorem TupE.at {o : Addr} (he : ∀ H Q, te σ H Q = Q (.ref o) H) (ho : TupAt H o x y) : TupE H σ te x y := by
  intro H1 Q s k
  rw [he]
  exact k o H1 (fun _ _ e => e) (ho.same s)
theorem RowE.mk (hr : RatE C H σ te x y) (hd : TupE H σ td x y) (hy : y ≠ 0) (bx : Bd 2000 x) (by' : Bd 2000 y) : RowE C H σ (tTup (tCons te (tCons td tNil))) := by
  intro H1 Q s k
  rw [x_tup, x_cons]
  refine hr H1 _ s fun r H2 n d hr2 hn s2 => ?_
  rw [x_cons]
  refine hd H2 _ (s.trans s2) fun o H3 s3 ho => ?_
  rw [x_nil]
  refine ⟨two_ok, fun q hq => k _ _ (Same.new' (s2.trans s3) hq) ⟨q, r, o, n, d, x, y, rfl, upd_same, ?_, ?_, hn, hy, bx, by'⟩⟩
  · exact (hr2.same s3).same (Same.new hq)
  · exact ho.same (Same.new hq)
theorem RatE.conv (h : RatE C H σ te x y) (hy : y ≠ 0) (e : x * y2 = x2 * y) : RatE C H σ te x2 y2 := by
  intro H1 Q s k
  exact h H1 Q s fun r H' n d hr hn s' => k r H' n d hr (hn.cross hy e) s'
theorem RatE.at {p : Addr} {t b : Int} (he : ∀ H Q, te σ H Q = Q (.ref p) H) (hp : RatAt C H p t b) (hn : Norm t b x y) : RatE C H σ te x y := by
  intro H1 Q s k
  rw [he]
  exact k p H1 t b (hp.same s) hn fun _ _ e => e
/-- numerators go with their denominators -/
def NOk (N : Int → Int → Int → Int → Int) : Prop := ∀ n1 d1 n2 d2 x1 y1 x2 y2 : Int, n1 * y1 = x1 * d1 → n2 * y2 = x2 * d2 → N n1 d1 n2 d2 * (y1 * y2) = N x1 y1 x2 y2 * (d1 * d2)
theorem nok_add : NOk addN := fun n1 d1 n2 d2 x1 y1 x2 y2 h1 h2 => by unfold addN; grind
theorem nok_sub : NOk subN := fun n1 d1 n2 d2 x1 y1 x2 y2 h1 h2 => by unfold subN; grind
theorem nok_mul : NOk mulN := fun n1 d1 n2 d2 x1 y1 x2 y2 h1 h2 => by unfold mulN; grind
theorem nok_radd : NOk raddN := nok_add
theorem nok_rmul : NOk rmulN := nok_mul
theorem nok_rsub : NOk rsubN := fun n1 d1 n2 d2 x1 y1 x2 y2 h1 h2 => by unfold rsubN; grind
theorem RatE.bin (hN : NOk N) (h1 : RatE C H σ te x1 y1) (h2 : RatE C H σ tf x2 y2) (n1 : y1 ≠ 0) (n2 : y2 ≠ 0) (b1 : Bd 2000 x1) (c1 : Bd 2000 y1) (b2 : Bd 2000 x2) (c2 : Bd 2000 y2) :
    RatE C H σ (tOp (rOwn2 C (spBin C N) E0) te tf) (N x1 y1 x2 y2) (y1 * y2) := by
  intro H1 Q s k
  rw [x_op]
  refine h1 H1 _ s fun r H2 n d hr hn s2 => ?_
  refine h2 H2 _ (s.trans s2) fun r' H3 n' d' hr' hn' s3 => ?_
  have hr3 := hr.same s3
  obtain ⟨dx, e1⟩ := id hr3
  obtain ⟨dy, e2⟩ := id hr'
  rw [x_own2 e1 e2]
  have l1 := hn.le n1
  have l2 := hn'.le n2
  refine ⟨r, _, n, d, n', d', rfl, hr3, .rat hr', hn.low, hn'.low, b1.of l1.1, c1.of l1.2, b2.of l2.1, c2.of l2.2, fun r4 H4 n4 d4 hr4 hn4 s4 => ?_⟩
  exact k r4 H4 n4 d4 hr4 (hn4.cross (Int.mul_ne_zero hn.low.nz hn'.low.nz) (hN _ _ _ _ _ _ _ _ hn.eq hn'.eq)) ((s2.trans s3).trans s4)
theorem RatE.binI (hN : NOk N) (h1 : RatE C H σ te x1 y1) (h2 : IntE H σ tf u) (n1 : y1 ≠ 0) (b1 : Bd 2000 x1) (c1 : Bd 2000 y1) (bu : Bd 2000 u) : RatE C H σ (tOp (rOwnI C (spBin C N) E0) te tf) (N x1 y1 u 1) (y1 * 1) := by
  intro H1 Q s k
  rw [x_op]
  refine h1 H1 _ s fun r H2 n d hr hn s2 => ?_
  refine h2 H2 _ (s.trans s2) ?_
  obtain ⟨dx, e1⟩ := id hr
  rw [x_ownI e1]
  have l1 := hn.le n1
  refine ⟨r, _, n, d, u, 1, rfl, hr, .int u, hn.low, .int, b1.of l1.1, c1.of l1.2, bu, .one (by decide), fun r4 H4 n4 d4 hr4 hn4 s4 => ?_⟩
  exact k r4 H4 n4 d4 hr4 (hn4.cross (Int.mul_ne_zero hn.low.nz (by decide)) (hN _ _ _ _ _ _ _ _ hn.eq rfl)) (s2.trans s4)
theorem RatE.binR (hN : NOk N) (h2 : IntE H σ tf u) (h1 : RatE C H σ te x1 y1) (n1 : y1 ≠ 0) (b1 : Bd 2000 x1) (c1 : Bd 2000 y1) (bu : Bd 2000 u) : RatE C H σ (tOp (rOwnR C (spRef C N) E0) tf te) (N x1 y1 u 1) (y1 * 1) := by
  intro H1 Q s k
  rw [x_op]
  refine h2 H1 _ s ?_
  refine h1 H1 _ s fun r H2 n d hr hn s2 => ?_
  obtain ⟨dx, e1⟩ := id hr
  rw [x_ownR e1]
  have l1 := hn.le n1
  refine ⟨r, n, d, u, rfl, hr, hn.low, b1.of l1.1, c1.of l1.2, bu, fun r4 H4 n4 d4 hr4 hn4 s4 => ?_⟩
  exact k r4 H4 n4 d4 hr4 (hn4.cross (Int.mul_ne_zero hn.low.nz (by decide)) (hN _ _ _ _ _ _ _ _ hn.eq rfl)) (s2.trans s4)
theorem RatE.neg (h1 : RatE C H σ te x1 y1) (n1 : y1 ≠ 0) (b1 : Bd 2000 x1) (c1 : Bd 2000 y1) : RatE C H σ (tUn (rOwnU C (spUn C (fun t => -t)) E0) te) (-x1) y1 := by
  intro H1 Q s k
  rw [x_un]
  refine h1 H1 _ s fun r H2 n d hr hn s2 => ?_
  obtain ⟨dx, e1⟩ := id hr
  rw [x_ownU e1]
  have l1 := hn.le n1
  refine ⟨r, n, d, rfl, hr, hn.low, b1.of l1.1, c1.of l1.2, fun r4 H4 n4 d4 hr4 hn4 s4 => ?_⟩
  exact k r4 H4 n4 d4 hr4 (hn4.cross hn.low.nz (by rw [Int.neg_mul, Int.neg_mul, hn.eq])) (s2.trans s4)
theorem RatE.abs (h1 : RatE C H σ te x1 y1) (n1 : y1 ≠ 0) (b1 : Bd 2000 x1) (c1 : Bd 2000 y1) : RatE C H σ (tCB (rOwnAbs C (spUn C (fun t => if t < 0 then -t else t)) E0) (tCons te tNil)) (x1.natAbs : Int) (y1.natAbs : Int) := by
  intro H1 Q s k
  rw [x_cb, x_cons]
  refine h1 H1 _ s fun r H2 n d hr hn s2 => ?_
  obtain ⟨dx, e1⟩ := id hr
  rw [x_nil, x_ownAbs e1]
  have l1 := hn.le n1
  refine ⟨r, n, d, rfl, hr, hn.low, b1.of l1.1, c1.of l1.2, fun r4 H4 n4 d4 hr4 hn4 s4 => ?_⟩
  refine k r4 H4 n4 d4 hr4 (hn4.cross hn.low.nz ?_) (s2.trans s4)
  have hd := hn.pos
  have e := congrArg Int.natAbs hn.eq
  rw [Int.natAbs_mul, Int.natAbs_mul] at e
  show (if n < 0 then -n else n) * (y1.natAbs : Int) = _
  rw [abs_if]
  have : (d.natAbs : Int) = d := by omega
  rw [← this]
  exact_mod_cast e
theorem RatE.over (h1 : RatE C H σ te x1 y1) (h2 : RatE C H σ tf x2 y2) (n1 : y1 ≠ 0) (n2 : y2 ≠ 0) (nx : x2 ≠ 0) (b1 : Bd 2000 x1) (c1 : Bd 2000 y1) (b2 : Bd 2000 x2) (c2 : Bd 2000 y2) :
    RatE C H σ (tMeth C "over" (spOver C Z) [] E0 te (tCons tf tNil)) (x1 * y2) (y1 * x2) := by
  intro H1 Q s k
  rw [x_meth]
  refine h1 H1 _ s fun r H2 n d hr hn s2 => ?_
  obtain ⟨dx, e1⟩ := id hr
  refine ⟨r, dx, _, rfl, e1, look_over, ?_⟩
  rw [x_cons]
  refine h2 H2 _ (s.trans s2) fun r' H3 n' d' hr' hn' s3 => ?_
  rw [x_nil]
  have l1 := hn.le n1
  have l2 := hn'.le n2
  have nn : n' ≠ 0 := fun e => by
    have h := hn'.eq
    rw [e, Int.zero_mul] at h
    exact (Int.mul_ne_zero nx hn'.low.nz) h.symm
  refine ⟨r, _, n, d, n', d', rfl, hr.same s3, .rat hr', hn.low, hn'.low, b1.of l1.1, c1.of l1.2, b2.of l2.1, c2.of l2.2, fun e => absurd e nn, fun _ r4 H4 n4 d4 hr4 hn4 s4 => ?_⟩
  refine k r4 H4 n4 d4 hr4 (hn4.cross (Int.mul_ne_zero hn.low.nz nn) ?_) ((s2.trans s3).trans s4)
  have q1 := hn.eq
  have q2 := hn'.eq
  grind
theorem RatE.overI (h1 : RatE C H σ te x1 y1) (h2 : IntE H σ tf u) (n1 : y1 ≠ 0) (nu : u ≠ 0) (b1 : Bd 2000 x1) (c1 : Bd 2000 y1) (bu : Bd 2000 u) :
    RatE C H σ (tMeth C "over" (spOver C Z) [] E0 te (tCons tf tNil)) x1 (y1 * u) := by
  intro H1 Q s k
  rw [x_meth]
  refine h1 H1 _ s fun r H2 n d hr hn s2 => ?_
  obtain ⟨dx, e1⟩ := id hr
  refine ⟨r, dx, _, rfl, e1, look_over, ?_⟩
  rw [x_cons]
  refine h2 H2 _ (s.trans s2) ?_
  rw [x_nil]
  have l1 := hn.le n1
  refine ⟨r, _, n, d, u, 1, rfl, hr, .int u, hn.low, .int, b1.of l1.1, c1.of l1.2, bu, .one (by decide), fun e => absurd e nu, fun _ r4 H4 n4 d4 hr4 hn4 s4 => ?_⟩
  refine k r4 H4 n4 d4 hr4 (hn4.cross (Int.mul_ne_zero hn.low.nz nu) ?_) (s2.trans s4)
  have q1 := hn.eq
  grind
theorem RatE.make (hx : IntE H σ tx x) (hy : IntE H σ ty y) (ny : y ≠ 0) (bx : Bd 8000 x) (by' : Bd 8000 y) : RatE C H σ (tMake C (spInit C Z) [] E0 (tCons tx (tCons ty tNil))) x y := by
  intro H1 Q s k
  rw [x_make, x_cons]
  refine hx H1 _ s ?_
  rw [x_cons]
  refine hy H1 _ s ?_
  rw [x_nil]
  exact fun p d n1 n2 n3 => make_nz bx by' ny k n1 n2 n3
theorem RatE.make1 (hx : IntE H σ tx x) (bx : Bd 8000 x) : RatE C H σ (tMake C (spInit C Z) [.int 1] E0 (tCons tx tNil)) x 1 := by
  intro H1 Q s k
  rw [x_make, x_cons]
  refine hx H1 _ s ?_
  rw [x_nil]
  exact fun p d n1 n2 n3 => make_nz bx (.one (by decide)) (by decide) k n1 n2 n3
/-! ### rows in a list -/
/-- a list at p, new beside H, of at most m rows -/
structure RI (C : Addr) (H : Hp) (p : Addr) (m : Nat) (H' : Hp) : Prop where
  same : Same H H'
  new : H p = none
  rows : ∃ xs, H' p = some (.lst xs) ∧ (∀ v ∈ xs, RowOk C H' v) ∧ xs.length ≤ m
theorem RI.put {K : PySem.W.Frag} {D : Ends} {p : Addr} {m : Nat} {H' : Hp} {tr : TE} (I : RI C H p m H') (hm : m < 1000) (he : ∀ H Q, te σ H Q = Q (.ref p) H) (hr : RowE C H σ tr) (k : ∀ H'', RI C H p (m + 1) H'' → D.nx σ H'') :
    tDrop (tBM K "list" rAppend te (tCons tr tNil)) D σ H' := by
  obtain ⟨s, np, xs, hp, hx, hl⟩ := I
  rw [x_drop, x_tbm, he]
  refine ⟨ty_lst hp, ?_⟩
  rw [x_cons]
  refine hr H' _ s fun v H2 s2 hv => ?_
  rw [x_nil]
  have hp2 := s2 _ _ hp
  rw [x_append hp2 (Nat.lt_of_le_of_lt hl (Nat.lt_of_lt_of_le hm (by decide)))]
  have kp : Keep p H2 (upd H2 p (.lst (xs ++ [v]))) := Keep.at (Keep.refl _ _)
  refine k _ ⟨?_, np, _, upd_same, ?_, ?_⟩
  · intro b o e
    rw [upd_ne (ne_of_none e np)]
    exact s2 _ _ (s _ _ e)
  · intro w hw
    rcases List.mem_append.mp hw with h | h
    · exact ((hx w h).same s2).keep hp2 kp
    · rw [List.mem_singleton.mp h]
      exact hv.keep hp2 kp
  · rw [List.length_append]
    simp only [List.length_cons, List.length_nil]
    omega
/-- a list of two rows -/
theorem RI.two {D : Ends} {tr tr' : TE} {i : Nat} (hr : RowE C H σ tr) (hr' : RowE C H σ tr') (k : ∀ p H', RI C H p 2 H' → D.nx (σ.set i (some (.ref p))) H') : tAsg (tLst (tCons tr (tCons tr' tNil))) (gName i) D σ H := by
  rw [x_asg, x_lst, x_cons]
  refine hr H _ (fun _ _ e => e) fun v H1 s1 hv => ?_
  rw [x_cons]
  refine hr' H1 _ s1 fun w H2 s2 hw => ?_
  rw [x_nil]
  refine ⟨two_ok, fun p hp => ?_⟩
  rw [x_name]
  refine k p _ ⟨Same.new' (s1.trans s2) hp, (s1.trans s2).free hp, [v, w], upd_same, ?_, Nat.le_refl _⟩
  intro z hz
  rcases List.mem_cons.mp hz with h | h
  · rw [h]
    exact (hv.same s2).same (Same.new hp)
  · rw [List.mem_singleton.mp h]
    exact hw.same (Same.new hp)
end
end SpX

set_option Elab.async false
set_option linter.all false
set_option maxRecDepth 100000
set_option maxHeartbeats 4000000
namespace SpX
open PySem PySem.Spec L2
/-- the two ratios and their fractions -/
structure Base (C : Addr) (H : Hp) (f s o1 o2 : Addr) (x1 y1 x2 y2 : Int) : Prop where
  f : ∃ t b, RatAt C H f t b ∧ Norm t b x1 y1
  s : ∃ t b, RatAt C H s t b ∧ Norm t b x2 y2
  t1 : TupAt H o1 x1 y1
  t2 : TupAt H o2 x2 y2
  n1 : y1 ≠ 0
  n2 : y2 ≠ 0
  b1 : Bd 256 x1
  c1 : Bd 256 y1
  b2 : Bd 256 x2
  c2 : Bd 256 y2
theorem Base.same {C : Addr} {H H' : Hp} {f s o1 o2 : Addr} {x1 y1 x2 y2 : Int} (h : Base C H f s o1 o2 x1 y1 x2 y2) (k : Same H H') : Base C H' f s o1 o2 x1 y1 x2 y2 := by
  obtain ⟨⟨t, b, hr, hn⟩, ⟨u, c, hr', hn'⟩, t1, t2, n1, n2, b1, c1, b2, c2⟩ := h
  exact ⟨⟨t, b, hr.same k, hn⟩, ⟨u, c, hr'.same k, hn'⟩, t1.same k, t2.same k, n1, n2, b1, c1, b2, c2⟩
def spResults (C : Addr) : Sp := fun vs H Q _ => ∃ (f s o1 o2 : Addr) (x1 y1 x2 y2 u : Int), vs = [.ref f, .ref s, .int u, .ref o1, .ref o2] ∧ Base C H f s o1 o2 x1 y1 x2 y2 ∧ Bd 256 u ∧ ∀ H', Same H H' → Q (.bl true) H'
section
variable {D : Ends} {H H' : Hp} {σ : L2.St} {te : TE} {t u : TS} {x : Int} {i : Nat}
theorem do_int (h : IntE H σ te x) (s : Same H H') (k : D.nx (σ.set i (some (.int x))) H') : tAsg te (gName i) D σ H' := by
  rw [x_asg]
  exact h H' _ s k
theorem do_ne (h : IntE H σ te x) (s : Same H H') (k1 : x ≠ 0 → t D σ H') (k2 : x = 0 → u D σ H') : tIfS (tTest (tOp rNe te (tC (.int 0)))) t u D σ H' := by
  rw [x_if, x_test, x_op]
  refine h H' _ s ?_
  simp only [x_c, x_neI, x_bl]
  by_cases hx : x = 0
  · rw [decide_eq_true hx, if_neg (by decide)]
    exact k2 hx
  · rw [decide_eq_false hx, if_pos (by decide)]
    exact k1 hx
theorem ne_list {p : Addr} {l : List (Option V)} {i : Nat} (h : l[i]? = some (some (.ref p))) (H : Hp) (Q : VK) : tVar i l H Q = Q (.ref p) H := by
  unfold tVar
  rw [h]
  exact propext ⟨fun ⟨_, e, q⟩ => by cases e; exact q, fun q => ⟨_, rfl, q⟩⟩
end
def t_results (K : PySem.W.Frag) (C Z : Addr) (E : XK) : TS :=
    (tSeq (tAsg (tOp (rI IntMulOk fun i j => .int (i * j)) (tOp rIx1 (tVar 3) (tC (.int 0))) (tOp rIx1 (tVar 4) (tC (.int 1)))) (gName 5))
    (tSeq (tAsg (tOp (rI IntMulOk fun i j => .int (i * j)) (tOp rIx1 (tVar 4) (tC (.int 0))) (tOp rIx1 (tVar 3) (tC (.int 1)))) (gName 6))
    (tSeq (tAsg (tOp (rI IntMulOk fun i j => .int (i * j)) (tOp rIx1 (tVar 3) (tC (.int 1))) (tOp rIx1 (tVar 4) (tC (.int 1)))) (gName 7))
    (tSeq (tAsg (tOp (rI IntMulOk fun i j => .int (i * j)) (tVar 2) (tOp rIx1 (tVar 3) (tC (.int 1)))) (gName 8))
    (tSeq (tAsg (tLst (tCons (tTup (tCons (tOp (rOwn2 C (spBin C addN) E0) (tVar 0) (tVar 1)) (tCons (tTup (tCons (tOp (rI0 fun i j => .int (i + j)) (tVar 5) (tVar 6)) (tCons (tVar 7) tNil))) tNil))) (tCons (tTup (tCons (tOp (rOwn2 C (spBin C subN) E0) (tVar 0) (tVar 1)) (tCons (tTup (tCons (tOp (rI0 fun i j => .int (i - j)) (tVar 5) (tVar 6)) (tCons (tVar 7) tNil))) tNil))) tNil))) (gName 9))
    (tSeq (tDrop (tBM K "list" rAppend (tVar 9) (tCons (tTup (tCons (tOp (rOwn2 C (spBin C subN) E0) (tVar 1) (tVar 0)) (tCons (tTup (tCons (tOp (rI0 fun i j => .int (i - j)) (tVar 6) (tVar 5)) (tCons (tVar 7) tNil))) tNil))) tNil)))
    (tSeq (tDrop (tBM K "list" rAppend (tVar 9) (tCons (tTup (tCons (tOp (rOwn2 C (spBin C mulN) E0) (tVar 0) (tVar 1)) (tCons (tTup (tCons (tOp (rI IntMulOk fun i j => .int (i * j)) (tOp rIx1 (tVar 3) (tC (.int 0))) (tOp rIx1 (tVar 4) (tC (.int 0)))) (tCons (tVar 7) tNil))) tNil))) tNil)))
    (tSeq (tDrop (tBM K "list" rAppend (tVar 9) (tCons (tTup (tCons (tOp (rOwnI C (spBin C addN) E0) (tVar 0) (tVar 2)) (tCons (tTup (tCons (tOp (rI0 fun i j => .int (i + j)) (tOp rIx1 (tVar 3) (tC (.int 0))) (tVar 8)) (tCons (tOp rIx1 (tVar 3) (tC (.int 1))) tNil))) tNil))) tNil)))
    (tSeq (tDrop (tBM K "list" rAppend (tVar 9) (tCons (tTup (tCons (tOp (rOwnR C (spRef C raddN) E0) (tVar 2) (tVar 0)) (tCons (tTup (tCons (tOp (rI0 fun i j => .int (i + j)) (tOp rIx1 (tVar 3) (tC (.int 0))) (tVar 8)) (tCons (tOp rIx1 (tVar 3) (tC (.int 1))) tNil))) tNil))) tNil)))
    (tSeq (tDrop (tBM K "list" rAppend (tVar 9) (tCons (tTup (tCons (tOp (rOwnI C (spBin C subN) E0) (tVar 0) (tVar 2)) (tCons (tTup (tCons (tOp (rI0 fun i j => .int (i - j)) (tOp rIx1 (tVar 3) (tC (.int 0))) (tVar 8)) (tCons (tOp rIx1 (tVar 3) (tC (.int 1))) tNil))) tNil))) tNil)))
    (tSeq (tDrop (tBM K "list" rAppend (tVar 9) (tCons (tTup (tCons (tOp (rOwnR C (spRef C rsubN) E0) (tVar 2) (tVar 0)) (tCons (tTup (tCons (tOp (rI0 fun i j => .int (i - j)) (tVar 8) (tOp rIx1 (tVar 3) (tC (.int 0)))) (tCons (tOp rIx1 (tVar 3) (tC (.int 1))) tNil))) tNil))) tNil)))
    (tSeq (tDrop (tBM K "list" rAppend (tVar 9) (tCons (tTup (tCons (tOp (rOwnI C (spBin C mulN) E0) (tVar 0) (tVar 2)) (tCons (tTup (tCons (tOp (rI IntMulOk fun i j => .int (i * j)) (tOp rIx1 (tVar 3) (tC (.int 0))) (tVar 2)) (tCons (tOp rIx1 (tVar 3) (tC (.int 1))) tNil))) tNil))) tNil)))
    (tSeq (tDrop (tBM K "list" rAppend (tVar 9) (tCons (tTup (tCons (tOp (rOwnR C (spRef C rmulN) E0) (tVar 2) (tVar 0)) (tCons (tTup (tCons (tOp (rI IntMulOk fun i j => .int (i * j)) (tOp rIx1 (tVar 3) (tC (.int 0))) (tVar 2)) (tCons (tOp rIx1 (tVar 3) (tC (.int 1))) tNil))) tNil))) tNil)))
    (tSeq (tDrop (tBM K "list" rAppend (tVar 9) (tCons (tTup (tCons (tUn (rOwnU C (spUn C (fun t => -t)) E0) (tVar 0)) (tCons (tTup (tCons (tUn (rU fun i => .int (-i)) (tOp rIx1 (tVar 3) (tC (.int 0)))) (tCons (tOp rIx1 (tVar 3) (tC (.int 1))) tNil))) tNil))) tNil)))
    (tSeq (tDrop (tBM K "list" rAppend (tVar 9) (tCons (tTup (tCons (tCB (rOwnAbs C (spUn C (fun t => if t < 0 then -t else t)) E0) (tCons (tVar 0) tNil)) (tCons (tTup (tCons (tCB rAbs1 (tCons (tOp rIx1 (tVar 3) (tC (.int 0))) tNil)) (tCons (tCB rAbs1 (tCons (tOp rIx1 (tVar 3) (tC (.int 1))) tNil)) tNil))) tNil))) tNil)))
    (tSeq (tDrop (tBM K "list" rAppend (tVar 9) (tCons (tTup (tCons (tMake C (spInit C Z) [.int 1] E0 (tCons (tVar 2) tNil)) (tCons (tTup (tCons (tVar 2) (tCons (tC (.int 1)) tNil))) tNil))) tNil)))
    (tSeq (tDrop (tBM K "list" rAppend (tVar 9) (tCons (tTup (tCons (tOp (rOwn2 C (spBin C subN) E0) (tOp (rOwn2 C (spBin C addN) E0) (tVar 0) (tVar 1)) (tVar 1)) (tCons (tVar 3) tNil))) tNil)))
    (tSeq (tDrop (tBM K "list" rAppend (tVar 9) (tCons (tTup (tCons (tOp (rOwn2 C (spBin C mulN) E0) (tOp (rOwn2 C (spBin C addN) E0) (tVar 0) (tVar 1)) (tOp (rOwn2 C (spBin C subN) E0) (tVar 0) (tVar 1))) (tCons (tTup (tCons (tOp (rI0 fun i j => .int (i - j)) (tOp (rI IntMulOk fun i j => .int (i * j)) (tVar 5) (tVar 5)) (tOp (rI IntMulOk fun i j => .int (i * j)) (tVar 6) (tVar 6))) (tCons (tOp (rI IntMulOk fun i j => .int (i * j)) (tVar 7) (tVar 7)) tNil))) tNil))) tNil)))
    (tSeq (tIfS (tTest (tOp rNe (tOp rIx1 (tVar 4) (tC (.int 0))) (tC (.int 0)))) (tSeq (tDrop (tBM K "list" rAppend (tVar 9) (tCons (tTup (tCons (tMeth C "over" (spOver C Z) [] E0 (tVar 0) (tCons (tVar 1) tNil)) (tCons (tTup (tCons (tVar 5) (tCons (tVar 6) tNil))) tNil))) tNil)))
    (tDrop (tBM K "list" rAppend (tVar 9) (tCons (tTup (tCons (tMeth C "over" (spOver C Z) [] E0 (tOp (rOwn2 C (spBin C mulN) E0) (tVar 0) (tVar 1)) (tCons (tVar 1) tNil)) (tCons (tVar 3) tNil))) tNil)))) tNext)
    (tSeq (tIfS (tTest (tOp rNe (tVar 2) (tC (.int 0)))) (tDrop (tBM K "list" rAppend (tVar 9) (tCons (tTup (tCons (tMeth C "over" (spOver C Z) [] E0 (tVar 0) (tCons (tVar 2) tNil)) (tCons (tTup (tCons (tOp rIx1 (tVar 3) (tC (.int 0))) (tCons (tVar 8) tNil))) tNil))) tNil))) tNext)
    (tSeq (tFor (iList K (tVar 9)) (gName 10) ((tIfS (tNot (tB (tCall (spRight C) [] E0 (tCons (tOp rIx1 (tVar 10) (tC (.int 0))) (tCons (tOp rIx1 (tVar 10) (tC (.int 1))) tNil))))) (tRet (tC (.bl false))) tNext)))
    (tRet (tC (.bl true))))))))))))))))))))))))
theorem pure_results {K : PySem.W.Frag} {C Z : Addr} (vs : List V) (H : Hp) (Q : VK) (E : XK) (h : spResults C vs H Q E) : t_results K C Z E { nx := fun _ H' => Q .non H', rt := Q } (start ["first", "second", "number", "one", "two", "left", "right", "ends", "moved", "rows", "row"] vs) H := by
  obtain ⟨f, s, o1, o2, x1, y1, x2, y2, u, rfl, ⟨⟨t, b, hr, hn⟩, ⟨t', b', hr', hn'⟩, h3, h4, n1, n2, b1, c1, b2, c2⟩, bu, k⟩ := h
  have B1 : Bd 2000 x1 := b1.mono (by decide)
  have C1 : Bd 2000 y1 := c1.mono (by decide)
  have B2 : Bd 2000 x2 := b2.mono (by decide)
  have C2 : Bd 2000 y2 := c2.mono (by decide)
  have Bu : Bd 2000 u := bu.mono (by decide)
  have bl : Bd 512 (x1 * y2) := b1.mul c2
  have br : Bd 512 (x2 * y1) := b2.mul c1
  have be : Bd 512 (y1 * y2) := c1.mul c2
  have bm : Bd 512 (u * y1) := bu.mul c1
  have BL : Bd 2000 (x1 * y2) := bl.mono (by decide)
  have BR : Bd 2000 (x2 * y1) := br.mono (by decide)
  have BE : Bd 2000 (y1 * y2) := be.mono (by decide)
  have BM : Bd 2000 (u * y1) := bm.mono (by decide)
  have BP : Bd 2000 (x1 * y2 + x2 * y1) := (bl.add br).mono (by decide)
  have BD : Bd 2000 (x1 * y2 - x2 * y1) := (bl.sub br).mono (by decide)
  have NE : y1 * y2 ≠ 0 := Int.mul_ne_zero n1 n2
  show t_results K C Z E _ [some (.ref f), some (.ref s), some (.int u), some (.ref o1), some (.ref o2), none, none, none, none, none, none] H
  unfold t_results
  have s0 : Same H H := fun _ _ e => e
  rw [x_seq]
  refine do_int (x := x1 * y2) (fun H1 Q s k => by simp only [x_seq, x_if, x_test, x_B, x_op, x_un, x_varS, x_var0, x_c, x_I0, x_I, x_U, x_bl, x_ret, x_next, x_asg, x_name, x_set0, x_setS, x_drop, x_cb, x_cons, x_nil, x_int1, x_abs1, x_max2, x_gcd, x_gsub, x_sl, x_part, x_nopart, x_int, x_call, x_lst, x_tup, x_not, x_and, x_or, x_andV, x_orV, x_notV, x_ifE, x_eqI, x_neI, x_eqB, x_neB, x_tbm, x_never, x_make, x_meth, x_isII, x_isIC, x_bool1, decide_eq_true_eq, Bool.false_eq_true, if_false, if_true, List.append_nil, List.nil_append, List.cons_append, x_ixT (h3.same s) at0, x_ixT (h4.same s) at1]; exact ⟨B1.ok2 C2, k⟩) s0 ?_
  simp only [x_setS, x_set0]
  rw [x_seq]
  refine do_int (x := x2 * y1) (fun H1 Q s k => by simp only [x_seq, x_if, x_test, x_B, x_op, x_un, x_varS, x_var0, x_c, x_I0, x_I, x_U, x_bl, x_ret, x_next, x_asg, x_name, x_set0, x_setS, x_drop, x_cb, x_cons, x_nil, x_int1, x_abs1, x_max2, x_gcd, x_gsub, x_sl, x_part, x_nopart, x_int, x_call, x_lst, x_tup, x_not, x_and, x_or, x_andV, x_orV, x_notV, x_ifE, x_eqI, x_neI, x_eqB, x_neB, x_tbm, x_never, x_make, x_meth, x_isII, x_isIC, x_bool1, decide_eq_true_eq, Bool.false_eq_true, if_false, if_true, List.append_nil, List.nil_append, List.cons_append, x_ixT (h3.same s) at1, x_ixT (h4.same s) at0]; exact ⟨B2.ok2 C1, k⟩) s0 ?_
  simp only [x_setS, x_set0]
  rw [x_seq]
  refine do_int (x := y1 * y2) (fun H1 Q s k => by simp only [x_seq, x_if, x_test, x_B, x_op, x_un, x_varS, x_var0, x_c, x_I0, x_I, x_U, x_bl, x_ret, x_next, x_asg, x_name, x_set0, x_setS, x_drop, x_cb, x_cons, x_nil, x_int1, x_abs1, x_max2, x_gcd, x_gsub, x_sl, x_part, x_nopart, x_int, x_call, x_lst, x_tup, x_not, x_and, x_or, x_andV, x_orV, x_notV, x_ifE, x_eqI, x_neI, x_eqB, x_neB, x_tbm, x_never, x_make, x_meth, x_isII, x_isIC, x_bool1, decide_eq_true_eq, Bool.false_eq_true, if_false, if_true, List.append_nil, List.nil_append, List.cons_append, x_ixT (h3.same s) at1, x_ixT (h4.same s) at1]; exact ⟨C1.ok2 C2, k⟩) s0 ?_
  simp only [x_setS, x_set0]
  rw [x_seq]
  refine do_int (x := u * y1) (fun H1 Q s k => by simp only [x_seq, x_if, x_test, x_B, x_op, x_un, x_varS, x_var0, x_c, x_I0, x_I, x_U, x_bl, x_ret, x_next, x_asg, x_name, x_set0, x_setS, x_drop, x_cb, x_cons, x_nil, x_int1, x_abs1, x_max2, x_gcd, x_gsub, x_sl, x_part, x_nopart, x_int, x_call, x_lst, x_tup, x_not, x_and, x_or, x_andV, x_orV, x_notV, x_ifE, x_eqI, x_neI, x_eqB, x_neB, x_tbm, x_never, x_make, x_meth, x_isII, x_isIC, x_bool1, decide_eq_true_eq, Bool.false_eq_true, if_false, if_true, List.append_nil, List.nil_append, List.cons_append, x_ixT (h3.same s) at1]; exact ⟨Bu.ok2 C1, k⟩) s0 ?_
  simp only [x_setS, x_set0]
  rw [x_seq]
  have F : ∀ p : Option V, RatE C H [some (.ref f), some (.ref s), some (.int u), some (.ref o1), some (.ref o2), some (.int (x1 * y2)), some (.int (x2 * y1)), some (.int (y1 * y2)), some (.int (u * y1)), p, none] (tVar 0) x1 y1 := fun p => RatE.at (ne_list rfl) hr hn
  have S : ∀ p : Option V, RatE C H [some (.ref f), some (.ref s), some (.int u), some (.ref o1), some (.ref o2), some (.int (x1 * y2)), some (.int (x2 * y1)), some (.int (y1 * y2)), some (.int (u * y1)), p, none] (tVar 1) x2 y2 := fun p => RatE.at (ne_list rfl) hr' hn'
  refine RI.two (RowE.mk (x := x1 * y2 + x2 * y1) (y := y1 * y2) ((F _).bin nok_add (S _) n1 n2 B1 C1 B2 C2) (.lit (fun H1 Q s k => by simp only [x_seq, x_if, x_test, x_B, x_op, x_un, x_varS, x_var0, x_c, x_I0, x_I, x_U, x_bl, x_ret, x_next, x_asg, x_name, x_set0, x_setS, x_drop, x_cb, x_cons, x_nil, x_int1, x_abs1, x_max2, x_gcd, x_gsub, x_sl, x_part, x_nopart, x_int, x_call, x_lst, x_tup, x_not, x_and, x_or, x_andV, x_orV, x_notV, x_ifE, x_eqI, x_neI, x_eqB, x_neB, x_tbm, x_never, x_make, x_meth, x_isII, x_isIC, x_bool1, decide_eq_true_eq, Bool.false_eq_true, if_false, if_true, List.append_nil, List.nil_append, List.cons_append, x_ixT (h3.same s) at0, x_ixT (h3.same s) at1, x_ixT (h4.same s) at0, x_ixT (h4.same s) at1, abs_if]; first | exact k | exact ⟨B1.ok2 B2, k⟩ | exact ⟨B1.ok2 Bu, k⟩ | exact ⟨BL.ok2 BL, BR.ok2 BR, k⟩ | exact ⟨BE.ok2 BE, k⟩) (fun H1 Q s k => by simp only [x_seq, x_if, x_test, x_B, x_op, x_un, x_varS, x_var0, x_c, x_I0, x_I, x_U, x_bl, x_ret, x_next, x_asg, x_name, x_set0, x_setS, x_drop, x_cb, x_cons, x_nil, x_int1, x_abs1, x_max2, x_gcd, x_gsub, x_sl, x_part, x_nopart, x_int, x_call, x_lst, x_tup, x_not, x_and, x_or, x_andV, x_orV, x_notV, x_ifE, x_eqI, x_neI, x_eqB, x_neB, x_tbm, x_never, x_make, x_meth, x_isII, x_isIC, x_bool1, decide_eq_true_eq, Bool.false_eq_true, if_false, if_true, List.append_nil, List.nil_append, List.cons_append, x_ixT (h3.same s) at0, x_ixT (h3.same s) at1, x_ixT (h4.same s) at0, x_ixT (h4.same s) at1, abs_if]; first | exact k | exact ⟨B1.ok2 B2, k⟩ | exact ⟨B1.ok2 Bu, k⟩ | exact ⟨BL.ok2 BL, BR.ok2 BR, k⟩ | exact ⟨BE.ok2 BE, k⟩)) NE BP BE)
    (RowE.mk (x := x1 * y2 - x2 * y1) (y := y1 * y2) ((F _).bin nok_sub (S _) n1 n2 B1 C1 B2 C2) (.lit (fun H1 Q s k => by simp only [x_seq, x_if, x_test, x_B, x_op, x_un, x_varS, x_var0, x_c, x_I0, x_I, x_U, x_bl, x_ret, x_next, x_asg, x_name, x_set0, x_setS, x_drop, x_cb, x_cons, x_nil, x_int1, x_abs1, x_max2, x_gcd, x_gsub, x_sl, x_part, x_nopart, x_int, x_call, x_lst, x_tup, x_not, x_and, x_or, x_andV, x_orV, x_notV, x_ifE, x_eqI, x_neI, x_eqB, x_neB, x_tbm, x_never, x_make, x_meth, x_isII, x_isIC, x_bool1, decide_eq_true_eq, Bool.false_eq_true, if_false, if_true, List.append_nil, List.nil_append, List.cons_append, x_ixT (h3.same s) at0, x_ixT (h3.same s) at1, x_ixT (h4.same s) at0, x_ixT (h4.same s) at1, abs_if]; first | exact k | exact ⟨B1.ok2 B2, k⟩ | exact ⟨B1.ok2 Bu, k⟩ | exact ⟨BL.ok2 BL, BR.ok2 BR, k⟩ | exact ⟨BE.ok2 BE, k⟩) (fun H1 Q s k => by simp only [x_seq, x_if, x_test, x_B, x_op, x_un, x_varS, x_var0, x_c, x_I0, x_I, x_U, x_bl, x_ret, x_next, x_asg, x_name, x_set0, x_setS, x_drop, x_cb, x_cons, x_nil, x_int1, x_abs1, x_max2, x_gcd, x_gsub, x_sl, x_part, x_nopart, x_int, x_call, x_lst, x_tup, x_not, x_and, x_or, x_andV, x_orV, x_notV, x_ifE, x_eqI, x_neI, x_eqB, x_neB, x_tbm, x_never, x_make, x_meth, x_isII, x_isIC, x_bool1, decide_eq_true_eq, Bool.false_eq_true, if_false, if_true, List.append_nil, List.nil_append, List.cons_append, x_ixT (h3.same s) at0, x_ixT (h3.same s) at1, x_ixT (h4.same s) at0, x_ixT (h4.same s) at1, abs_if]; first | exact k | exact ⟨B1.ok2 B2, k⟩ | exact ⟨B1.ok2 Bu, k⟩ | exact ⟨BL.ok2 BL, BR.ok2 BR, k⟩ | exact ⟨BE.ok2 BE, k⟩)) NE BD BE) fun p H1 I => ?_
  simp only [x_setS, x_set0]
  have F := F (some (.ref p))
  have S := S (some (.ref p))
  have rv : ∀ H Q, tVar 9 [some (.ref f), some (.ref s), some (.int u), some (.ref o1), some (.ref o2), some (.int (x1 * y2)), some (.int (x2 * y1)), some (.int (y1 * y2)), some (.int (u * y1)), some (.ref p), none] H Q = Q (.ref p) H := ne_list rfl
  have FS := F.bin nok_add S n1 n2 B1 C1 B2 C2
  have FD := F.bin nok_sub S n1 n2 B1 C1 B2 C2
  have FM := F.bin nok_mul S n1 n2 B1 C1 B2 C2
  have T1 : TupE H [some (.ref f), some (.ref s), some (.int u), some (.ref o1), some (.ref o2), some (.int (x1 * y2)), some (.int (x2 * y1)), some (.int (y1 * y2)), some (.int (u * y1)), some (.ref p), none] (tVar 3) x1 y1 := TupE.at (ne_list rfl) h3
  have U : IntE H [some (.ref f), some (.ref s), some (.int u), some (.ref o1), some (.ref o2), some (.int (x1 * y2)), some (.int (x2 * y1)), some (.int (y1 * y2)), some (.int (u * y1)), some (.ref p), none] (tVar 2) u := (fun H1 Q s k => by simp only [x_seq, x_if, x_test, x_B, x_op, x_un, x_varS, x_var0, x_c, x_I0, x_I, x_U, x_bl, x_ret, x_next, x_asg, x_name, x_set0, x_setS, x_drop, x_cb, x_cons, x_nil, x_int1, x_abs1, x_max2, x_gcd, x_gsub, x_sl, x_part, x_nopart, x_int, x_call, x_lst, x_tup, x_not, x_and, x_or, x_andV, x_orV, x_notV, x_ifE, x_eqI, x_neI, x_eqB, x_neB, x_tbm, x_never, x_make, x_meth, x_isII, x_isIC, x_bool1, decide_eq_true_eq, Bool.false_eq_true, if_false, if_true, List.append_nil, List.nil_append, List.cons_append, x_ixT (h3.same s) at0, x_ixT (h3.same s) at1, x_ixT (h4.same s) at0, x_ixT (h4.same s) at1, abs_if]; first | exact k | exact ⟨B1.ok2 B2, k⟩ | exact ⟨B1.ok2 Bu, k⟩ | exact ⟨BL.ok2 BL, BR.ok2 BR, k⟩ | exact ⟨BE.ok2 BE, k⟩)
  -- second - first
  rw [x_seq]
  refine I.put (by decide) rv (RowE.mk (x := x2 * y1 - x1 * y2) (y := y1 * y2) ((S.bin nok_sub F n2 n1 B2 C2 B1 C1).conv (Int.mul_ne_zero n2 n1) (by unfold subN; grind)) (.lit (fun H1 Q s k => by simp only [x_seq, x_if, x_test, x_B, x_op, x_un, x_varS, x_var0, x_c, x_I0, x_I, x_U, x_bl, x_ret, x_next, x_asg, x_name, x_set0, x_setS, x_drop, x_cb, x_cons, x_nil, x_int1, x_abs1, x_max2, x_gcd, x_gsub, x_sl, x_part, x_nopart, x_int, x_call, x_lst, x_tup, x_not, x_and, x_or, x_andV, x_orV, x_notV, x_ifE, x_eqI, x_neI, x_eqB, x_neB, x_tbm, x_never, x_make, x_meth, x_isII, x_isIC, x_bool1, decide_eq_true_eq, Bool.false_eq_true, if_false, if_true, List.append_nil, List.nil_append, List.cons_append, x_ixT (h3.same s) at0, x_ixT (h3.same s) at1, x_ixT (h4.same s) at0, x_ixT (h4.same s) at1, abs_if]; first | exact k | exact ⟨B1.ok2 B2, k⟩ | exact ⟨B1.ok2 Bu, k⟩ | exact ⟨BL.ok2 BL, BR.ok2 BR, k⟩ | exact ⟨BE.ok2 BE, k⟩) (fun H1 Q s k => by simp only [x_seq, x_if, x_test, x_B, x_op, x_un, x_varS, x_var0, x_c, x_I0, x_I, x_U, x_bl, x_ret, x_next, x_asg, x_name, x_set0, x_setS, x_drop, x_cb, x_cons, x_nil, x_int1, x_abs1, x_max2, x_gcd, x_gsub, x_sl, x_part, x_nopart, x_int, x_call, x_lst, x_tup, x_not, x_and, x_or, x_andV, x_orV, x_notV, x_ifE, x_eqI, x_neI, x_eqB, x_neB, x_tbm, x_never, x_make, x_meth, x_isII, x_isIC, x_bool1, decide_eq_true_eq, Bool.false_eq_true, if_false, if_true, List.append_nil, List.nil_append, List.cons_append, x_ixT (h3.same s) at0, x_ixT (h3.same s) at1, x_ixT (h4.same s) at0, x_ixT (h4.same s) at1, abs_if]; first | exact k | exact ⟨B1.ok2 B2, k⟩ | exact ⟨B1.ok2 Bu, k⟩ | exact ⟨BL.ok2 BL, BR.ok2 BR, k⟩ | exact ⟨BE.ok2 BE, k⟩)) NE ((br.sub bl).mono (by decide)) BE) fun H1 I => ?_
  dsimp only
  -- first * second
  rw [x_seq]
  refine I.put (by decide) rv (RowE.mk (x := x1 * x2) (y := y1 * y2) FM (.lit (fun H1 Q s k => by simp only [x_seq, x_if, x_test, x_B, x_op, x_un, x_varS, x_var0, x_c, x_I0, x_I, x_U, x_bl, x_ret, x_next, x_asg, x_name, x_set0, x_setS, x_drop, x_cb, x_cons, x_nil, x_int1, x_abs1, x_max2, x_gcd, x_gsub, x_sl, x_part, x_nopart, x_int, x_call, x_lst, x_tup, x_not, x_and, x_or, x_andV, x_orV, x_notV, x_ifE, x_eqI, x_neI, x_eqB, x_neB, x_tbm, x_never, x_make, x_meth, x_isII, x_isIC, x_bool1, decide_eq_true_eq, Bool.false_eq_true, if_false, if_true, List.append_nil, List.nil_append, List.cons_append, x_ixT (h3.same s) at0, x_ixT (h3.same s) at1, x_ixT (h4.same s) at0, x_ixT (h4.same s) at1, abs_if]; first | exact k | exact ⟨B1.ok2 B2, k⟩ | exact ⟨B1.ok2 Bu, k⟩ | exact ⟨BL.ok2 BL, BR.ok2 BR, k⟩ | exact ⟨BE.ok2 BE, k⟩) (fun H1 Q s k => by simp only [x_seq, x_if, x_test, x_B, x_op, x_un, x_varS, x_var0, x_c, x_I0, x_I, x_U, x_bl, x_ret, x_next, x_asg, x_name, x_set0, x_setS, x_drop, x_cb, x_cons, x_nil, x_int1, x_abs1, x_max2, x_gcd, x_gsub, x_sl, x_part, x_nopart, x_int, x_call, x_lst, x_tup, x_not, x_and, x_or, x_andV, x_orV, x_notV, x_ifE, x_eqI, x_neI, x_eqB, x_neB, x_tbm, x_never, x_make, x_meth, x_isII, x_isIC, x_bool1, decide_eq_true_eq, Bool.false_eq_true, if_false, if_true, List.append_nil, List.nil_append, List.cons_append, x_ixT (h3.same s) at0, x_ixT (h3.same s) at1, x_ixT (h4.same s) at0, x_ixT (h4.same s) at1, abs_if]; first | exact k | exact ⟨B1.ok2 B2, k⟩ | exact ⟨B1.ok2 Bu, k⟩ | exact ⟨BL.ok2 BL, BR.ok2 BR, k⟩ | exact ⟨BE.ok2 BE, k⟩)) NE ((b1.mul b2).mono (by decide)) BE) fun H1 I => ?_
  dsimp only
  -- first + number, number + first
  rw [x_seq]
  refine I.put (by decide) rv (RowE.mk (x := x1 + u * y1) (y := y1) ((F.binI nok_add U n1 B1 C1 Bu).conv (Int.mul_ne_zero n1 (by decide)) (by unfold addN; grind)) (.lit (fun H1 Q s k => by simp only [x_seq, x_if, x_test, x_B, x_op, x_un, x_varS, x_var0, x_c, x_I0, x_I, x_U, x_bl, x_ret, x_next, x_asg, x_name, x_set0, x_setS, x_drop, x_cb, x_cons, x_nil, x_int1, x_abs1, x_max2, x_gcd, x_gsub, x_sl, x_part, x_nopart, x_int, x_call, x_lst, x_tup, x_not, x_and, x_or, x_andV, x_orV, x_notV, x_ifE, x_eqI, x_neI, x_eqB, x_neB, x_tbm, x_never, x_make, x_meth, x_isII, x_isIC, x_bool1, decide_eq_true_eq, Bool.false_eq_true, if_false, if_true, List.append_nil, List.nil_append, List.cons_append, x_ixT (h3.same s) at0, x_ixT (h3.same s) at1, x_ixT (h4.same s) at0, x_ixT (h4.same s) at1, abs_if]; first | exact k | exact ⟨B1.ok2 B2, k⟩ | exact ⟨B1.ok2 Bu, k⟩ | exact ⟨BL.ok2 BL, BR.ok2 BR, k⟩ | exact ⟨BE.ok2 BE, k⟩) (fun H1 Q s k => by simp only [x_seq, x_if, x_test, x_B, x_op, x_un, x_varS, x_var0, x_c, x_I0, x_I, x_U, x_bl, x_ret, x_next, x_asg, x_name, x_set0, x_setS, x_drop, x_cb, x_cons, x_nil, x_int1, x_abs1, x_max2, x_gcd, x_gsub, x_sl, x_part, x_nopart, x_int, x_call, x_lst, x_tup, x_not, x_and, x_or, x_andV, x_orV, x_notV, x_ifE, x_eqI, x_neI, x_eqB, x_neB, x_tbm, x_never, x_make, x_meth, x_isII, x_isIC, x_bool1, decide_eq_true_eq, Bool.false_eq_true, if_false, if_true, List.append_nil, List.nil_append, List.cons_append, x_ixT (h3.same s) at0, x_ixT (h3.same s) at1, x_ixT (h4.same s) at0, x_ixT (h4.same s) at1, abs_if]; first | exact k | exact ⟨B1.ok2 B2, k⟩ | exact ⟨B1.ok2 Bu, k⟩ | exact ⟨BL.ok2 BL, BR.ok2 BR, k⟩ | exact ⟨BE.ok2 BE, k⟩)) n1 (((b1.mono (n := 512) (by decide)).add bm).mono (by decide)) C1) fun H1 I => ?_
  dsimp only
  rw [x_seq]
  refine I.put (by decide) rv (RowE.mk (x := x1 + u * y1) (y := y1) ((RatE.binR nok_radd U F n1 B1 C1 Bu).conv (Int.mul_ne_zero n1 (by decide)) (by unfold raddN; grind)) (.lit (fun H1 Q s k => by simp only [x_seq, x_if, x_test, x_B, x_op, x_un, x_varS, x_var0, x_c, x_I0, x_I, x_U, x_bl, x_ret, x_next, x_asg, x_name, x_set0, x_setS, x_drop, x_cb, x_cons, x_nil, x_int1, x_abs1, x_max2, x_gcd, x_gsub, x_sl, x_part, x_nopart, x_int, x_call, x_lst, x_tup, x_not, x_and, x_or, x_andV, x_orV, x_notV, x_ifE, x_eqI, x_neI, x_eqB, x_neB, x_tbm, x_never, x_make, x_meth, x_isII, x_isIC, x_bool1, decide_eq_true_eq, Bool.false_eq_true, if_false, if_true, List.append_nil, List.nil_append, List.cons_append, x_ixT (h3.same s) at0, x_ixT (h3.same s) at1, x_ixT (h4.same s) at0, x_ixT (h4.same s) at1, abs_if]; first | exact k | exact ⟨B1.ok2 B2, k⟩ | exact ⟨B1.ok2 Bu, k⟩ | exact ⟨BL.ok2 BL, BR.ok2 BR, k⟩ | exact ⟨BE.ok2 BE, k⟩) (fun H1 Q s k => by simp only [x_seq, x_if, x_test, x_B, x_op, x_un, x_varS, x_var0, x_c, x_I0, x_I, x_U, x_bl, x_ret, x_next, x_asg, x_name, x_set0, x_setS, x_drop, x_cb, x_cons, x_nil, x_int1, x_abs1, x_max2, x_gcd, x_gsub, x_sl, x_part, x_nopart, x_int, x_call, x_lst, x_tup, x_not, x_and, x_or, x_andV, x_orV, x_notV, x_ifE, x_eqI, x_neI, x_eqB, x_neB, x_tbm, x_never, x_make, x_meth, x_isII, x_isIC, x_bool1, decide_eq_true_eq, Bool.false_eq_true, if_false, if_true, List.append_nil, List.nil_append, List.cons_append, x_ixT (h3.same s) at0, x_ixT (h3.same s) at1, x_ixT (h4.same s) at0, x_ixT (h4.same s) at1, abs_if]; first | exact k | exact ⟨B1.ok2 B2, k⟩ | exact ⟨B1.ok2 Bu, k⟩ | exact ⟨BL.ok2 BL, BR.ok2 BR, k⟩ | exact ⟨BE.ok2 BE, k⟩)) n1 (((b1.mono (n := 512) (by decide)).add bm).mono (by decide)) C1) fun H1 I => ?_
  dsimp only
  -- first - number, number - first
  rw [x_seq]
  refine I.put (by decide) rv (RowE.mk (x := x1 - u * y1) (y := y1) ((F.binI nok_sub U n1 B1 C1 Bu).conv (Int.mul_ne_zero n1 (by decide)) (by unfold subN; grind)) (.lit (fun H1 Q s k => by simp only [x_seq, x_if, x_test, x_B, x_op, x_un, x_varS, x_var0, x_c, x_I0, x_I, x_U, x_bl, x_ret, x_next, x_asg, x_name, x_set0, x_setS, x_drop, x_cb, x_cons, x_nil, x_int1, x_abs1, x_max2, x_gcd, x_gsub, x_sl, x_part, x_nopart, x_int, x_call, x_lst, x_tup, x_not, x_and, x_or, x_andV, x_orV, x_notV, x_ifE, x_eqI, x_neI, x_eqB, x_neB, x_tbm, x_never, x_make, x_meth, x_isII, x_isIC, x_bool1, decide_eq_true_eq, Bool.false_eq_true, if_false, if_true, List.append_nil, List.nil_append, List.cons_append, x_ixT (h3.same s) at0, x_ixT (h3.same s) at1, x_ixT (h4.same s) at0, x_ixT (h4.same s) at1, abs_if]; first | exact k | exact ⟨B1.ok2 B2, k⟩ | exact ⟨B1.ok2 Bu, k⟩ | exact ⟨BL.ok2 BL, BR.ok2 BR, k⟩ | exact ⟨BE.ok2 BE, k⟩) (fun H1 Q s k => by simp only [x_seq, x_if, x_test, x_B, x_op, x_un, x_varS, x_var0, x_c, x_I0, x_I, x_U, x_bl, x_ret, x_next, x_asg, x_name, x_set0, x_setS, x_drop, x_cb, x_cons, x_nil, x_int1, x_abs1, x_max2, x_gcd, x_gsub, x_sl, x_part, x_nopart, x_int, x_call, x_lst, x_tup, x_not, x_and, x_or, x_andV, x_orV, x_notV, x_ifE, x_eqI, x_neI, x_eqB, x_neB, x_tbm, x_never, x_make, x_meth, x_isII, x_isIC, x_bool1, decide_eq_true_eq, Bool.false_eq_true, if_false, if_true, List.append_nil, List.nil_append, List.cons_append, x_ixT (h3.same s) at0, x_ixT (h3.same s) at1, x_ixT (h4.same s) at0, x_ixT (h4.same s) at1, abs_if]; first | exact k | exact ⟨B1.ok2 B2, k⟩ | exact ⟨B1.ok2 Bu, k⟩ | exact ⟨BL.ok2 BL, BR.ok2 BR, k⟩ | exact ⟨BE.ok2 BE, k⟩)) n1 (((b1.mono (n := 512) (by decide)).sub bm).mono (by decide)) C1) fun H1 I => ?_
  dsimp only
  rw [x_seq]
  refine I.put (by decide) rv (RowE.mk (x := u * y1 - x1) (y := y1) ((RatE.binR nok_rsub U F n1 B1 C1 Bu).conv (Int.mul_ne_zero n1 (by decide)) (by unfold rsubN; grind)) (.lit (fun H1 Q s k => by simp only [x_seq, x_if, x_test, x_B, x_op, x_un, x_varS, x_var0, x_c, x_I0, x_I, x_U, x_bl, x_ret, x_next, x_asg, x_name, x_set0, x_setS, x_drop, x_cb, x_cons, x_nil, x_int1, x_abs1, x_max2, x_gcd, x_gsub, x_sl, x_part, x_nopart, x_int, x_call, x_lst, x_tup, x_not, x_and, x_or, x_andV, x_orV, x_notV, x_ifE, x_eqI, x_neI, x_eqB, x_neB, x_tbm, x_never, x_make, x_meth, x_isII, x_isIC, x_bool1, decide_eq_true_eq, Bool.false_eq_true, if_false, if_true, List.append_nil, List.nil_append, List.cons_append, x_ixT (h3.same s) at0, x_ixT (h3.same s) at1, x_ixT (h4.same s) at0, x_ixT (h4.same s) at1, abs_if]; first | exact k | exact ⟨B1.ok2 B2, k⟩ | exact ⟨B1.ok2 Bu, k⟩ | exact ⟨BL.ok2 BL, BR.ok2 BR, k⟩ | exact ⟨BE.ok2 BE, k⟩) (fun H1 Q s k => by simp only [x_seq, x_if, x_test, x_B, x_op, x_un, x_varS, x_var0, x_c, x_I0, x_I, x_U, x_bl, x_ret, x_next, x_asg, x_name, x_set0, x_setS, x_drop, x_cb, x_cons, x_nil, x_int1, x_abs1, x_max2, x_gcd, x_gsub, x_sl, x_part, x_nopart, x_int, x_call, x_lst, x_tup, x_not, x_and, x_or, x_andV, x_orV, x_notV, x_ifE, x_eqI, x_neI, x_eqB, x_neB, x_tbm, x_never, x_make, x_meth, x_isII, x_isIC, x_bool1, decide_eq_true_eq, Bool.false_eq_true, if_false, if_true, List.append_nil, List.nil_append, List.cons_append, x_ixT (h3.same s) at0, x_ixT (h3.same s) at1, x_ixT (h4.same s) at0, x_ixT (h4.same s) at1, abs_if]; first | exact k | exact ⟨B1.ok2 B2, k⟩ | exact ⟨B1.ok2 Bu, k⟩ | exact ⟨BL.ok2 BL, BR.ok2 BR, k⟩ | exact ⟨BE.ok2 BE, k⟩)) n1 ((bm.sub (b1.mono (n := 512) (by decide))).mono (by decide)) C1) fun H1 I => ?_
  dsimp only
  -- first * number, number * first
  rw [x_seq]
  refine I.put (by decide) rv (RowE.mk (x := x1 * u) (y := y1) ((F.binI nok_mul U n1 B1 C1 Bu).conv (Int.mul_ne_zero n1 (by decide)) (by unfold mulN; grind)) (.lit (fun H1 Q s k => by simp only [x_seq, x_if, x_test, x_B, x_op, x_un, x_varS, x_var0, x_c, x_I0, x_I, x_U, x_bl, x_ret, x_next, x_asg, x_name, x_set0, x_setS, x_drop, x_cb, x_cons, x_nil, x_int1, x_abs1, x_max2, x_gcd, x_gsub, x_sl, x_part, x_nopart, x_int, x_call, x_lst, x_tup, x_not, x_and, x_or, x_andV, x_orV, x_notV, x_ifE, x_eqI, x_neI, x_eqB, x_neB, x_tbm, x_never, x_make, x_meth, x_isII, x_isIC, x_bool1, decide_eq_true_eq, Bool.false_eq_true, if_false, if_true, List.append_nil, List.nil_append, List.cons_append, x_ixT (h3.same s) at0, x_ixT (h3.same s) at1, x_ixT (h4.same s) at0, x_ixT (h4.same s) at1, abs_if]; first | exact k | exact ⟨B1.ok2 B2, k⟩ | exact ⟨B1.ok2 Bu, k⟩ | exact ⟨BL.ok2 BL, BR.ok2 BR, k⟩ | exact ⟨BE.ok2 BE, k⟩) (fun H1 Q s k => by simp only [x_seq, x_if, x_test, x_B, x_op, x_un, x_varS, x_var0, x_c, x_I0, x_I, x_U, x_bl, x_ret, x_next, x_asg, x_name, x_set0, x_setS, x_drop, x_cb, x_cons, x_nil, x_int1, x_abs1, x_max2, x_gcd, x_gsub, x_sl, x_part, x_nopart, x_int, x_call, x_lst, x_tup, x_not, x_and, x_or, x_andV, x_orV, x_notV, x_ifE, x_eqI, x_neI, x_eqB, x_neB, x_tbm, x_never, x_make, x_meth, x_isII, x_isIC, x_bool1, decide_eq_true_eq, Bool.false_eq_true, if_false, if_true, List.append_nil, List.nil_append, List.cons_append, x_ixT (h3.same s) at0, x_ixT (h3.same s) at1, x_ixT (h4.same s) at0, x_ixT (h4.same s) at1, abs_if]; first | exact k | exact ⟨B1.ok2 B2, k⟩ | exact ⟨B1.ok2 Bu, k⟩ | exact ⟨BL.ok2 BL, BR.ok2 BR, k⟩ | exact ⟨BE.ok2 BE, k⟩)) n1 ((b1.mul bu).mono (by decide)) C1) fun H1 I => ?_
  dsimp only
  rw [x_seq]
  refine I.put (by decide) rv (RowE.mk (x := x1 * u) (y := y1) ((RatE.binR nok_rmul U F n1 B1 C1 Bu).conv (Int.mul_ne_zero n1 (by decide)) (by unfold rmulN; grind)) (.lit (fun H1 Q s k => by simp only [x_seq, x_if, x_test, x_B, x_op, x_un, x_varS, x_var0, x_c, x_I0, x_I, x_U, x_bl, x_ret, x_next, x_asg, x_name, x_set0, x_setS, x_drop, x_cb, x_cons, x_nil, x_int1, x_abs1, x_max2, x_gcd, x_gsub, x_sl, x_part, x_nopart, x_int, x_call, x_lst, x_tup, x_not, x_and, x_or, x_andV, x_orV, x_notV, x_ifE, x_eqI, x_neI, x_eqB, x_neB, x_tbm, x_never, x_make, x_meth, x_isII, x_isIC, x_bool1, decide_eq_true_eq, Bool.false_eq_true, if_false, if_true, List.append_nil, List.nil_append, List.cons_append, x_ixT (h3.same s) at0, x_ixT (h3.same s) at1, x_ixT (h4.same s) at0, x_ixT (h4.same s) at1, abs_if]; first | exact k | exact ⟨B1.ok2 B2, k⟩ | exact ⟨B1.ok2 Bu, k⟩ | exact ⟨BL.ok2 BL, BR.ok2 BR, k⟩ | exact ⟨BE.ok2 BE, k⟩) (fun H1 Q s k => by simp only [x_seq, x_if, x_test, x_B, x_op, x_un, x_varS, x_var0, x_c, x_I0, x_I, x_U, x_bl, x_ret, x_next, x_asg, x_name, x_set0, x_setS, x_drop, x_cb, x_cons, x_nil, x_int1, x_abs1, x_max2, x_gcd, x_gsub, x_sl, x_part, x_nopart, x_int, x_call, x_lst, x_tup, x_not, x_and, x_or, x_andV, x_orV, x_notV, x_ifE, x_eqI, x_neI, x_eqB, x_neB, x_tbm, x_never, x_make, x_meth, x_isII, x_isIC, x_bool1, decide_eq_true_eq, Bool.false_eq_true, if_false, if_true, List.append_nil, List.nil_append, List.cons_append, x_ixT (h3.same s) at0, x_ixT (h3.same s) at1, x_ixT (h4.same s) at0, x_ixT (h4.same s) at1, abs_if]; first | exact k | exact ⟨B1.ok2 B2, k⟩ | exact ⟨B1.ok2 Bu, k⟩ | exact ⟨BL.ok2 BL, BR.ok2 BR, k⟩ | exact ⟨BE.ok2 BE, k⟩)) n1 ((b1.mul bu).mono (by decide)) C1) fun H1 I => ?_
  dsimp only
  -- -first, abs(first), Ratio(number)
  rw [x_seq]
  refine I.put (by decide) rv (RowE.mk (x := -x1) (y := y1) (F.neg n1 B1 C1) (.lit (fun H1 Q s k => by simp only [x_seq, x_if, x_test, x_B, x_op, x_un, x_varS, x_var0, x_c, x_I0, x_I, x_U, x_bl, x_ret, x_next, x_asg, x_name, x_set0, x_setS, x_drop, x_cb, x_cons, x_nil, x_int1, x_abs1, x_max2, x_gcd, x_gsub, x_sl, x_part, x_nopart, x_int, x_call, x_lst, x_tup, x_not, x_and, x_or, x_andV, x_orV, x_notV, x_ifE, x_eqI, x_neI, x_eqB, x_neB, x_tbm, x_never, x_make, x_meth, x_isII, x_isIC, x_bool1, decide_eq_true_eq, Bool.false_eq_true, if_false, if_true, List.append_nil, List.nil_append, List.cons_append, x_ixT (h3.same s) at0, x_ixT (h3.same s) at1, x_ixT (h4.same s) at0, x_ixT (h4.same s) at1, abs_if]; first | exact k | exact ⟨B1.ok2 B2, k⟩ | exact ⟨B1.ok2 Bu, k⟩ | exact ⟨BL.ok2 BL, BR.ok2 BR, k⟩ | exact ⟨BE.ok2 BE, k⟩) (fun H1 Q s k => by simp only [x_seq, x_if, x_test, x_B, x_op, x_un, x_varS, x_var0, x_c, x_I0, x_I, x_U, x_bl, x_ret, x_next, x_asg, x_name, x_set0, x_setS, x_drop, x_cb, x_cons, x_nil, x_int1, x_abs1, x_max2, x_gcd, x_gsub, x_sl, x_part, x_nopart, x_int, x_call, x_lst, x_tup, x_not, x_and, x_or, x_andV, x_orV, x_notV, x_ifE, x_eqI, x_neI, x_eqB, x_neB, x_tbm, x_never, x_make, x_meth, x_isII, x_isIC, x_bool1, decide_eq_true_eq, Bool.false_eq_true, if_false, if_true, List.append_nil, List.nil_append, List.cons_append, x_ixT (h3.same s) at0, x_ixT (h3.same s) at1, x_ixT (h4.same s) at0, x_ixT (h4.same s) at1, abs_if]; first | exact k | exact ⟨B1.ok2 B2, k⟩ | exact ⟨B1.ok2 Bu, k⟩ | exact ⟨BL.ok2 BL, BR.ok2 BR, k⟩ | exact ⟨BE.ok2 BE, k⟩)) n1 B1.neg C1) fun H1 I => ?_
  dsimp only
  rw [x_seq]
  refine I.put (by decide) rv (RowE.mk (x := (x1.natAbs : Int)) (y := (y1.natAbs : Int)) (F.abs n1 B1 C1) (.lit (fun H1 Q s k => by simp only [x_seq, x_if, x_test, x_B, x_op, x_un, x_varS, x_var0, x_c, x_I0, x_I, x_U, x_bl, x_ret, x_next, x_asg, x_name, x_set0, x_setS, x_drop, x_cb, x_cons, x_nil, x_int1, x_abs1, x_max2, x_gcd, x_gsub, x_sl, x_part, x_nopart, x_int, x_call, x_lst, x_tup, x_not, x_and, x_or, x_andV, x_orV, x_notV, x_ifE, x_eqI, x_neI, x_eqB, x_neB, x_tbm, x_never, x_make, x_meth, x_isII, x_isIC, x_bool1, decide_eq_true_eq, Bool.false_eq_true, if_false, if_true, List.append_nil, List.nil_append, List.cons_append, x_ixT (h3.same s) at0, x_ixT (h3.same s) at1, x_ixT (h4.same s) at0, x_ixT (h4.same s) at1, abs_if]; first | exact k | exact ⟨B1.ok2 B2, k⟩ | exact ⟨B1.ok2 Bu, k⟩ | exact ⟨BL.ok2 BL, BR.ok2 BR, k⟩ | exact ⟨BE.ok2 BE, k⟩) (fun H1 Q s k => by simp only [x_seq, x_if, x_test, x_B, x_op, x_un, x_varS, x_var0, x_c, x_I0, x_I, x_U, x_bl, x_ret, x_next, x_asg, x_name, x_set0, x_setS, x_drop, x_cb, x_cons, x_nil, x_int1, x_abs1, x_max2, x_gcd, x_gsub, x_sl, x_part, x_nopart, x_int, x_call, x_lst, x_tup, x_not, x_and, x_or, x_andV, x_orV, x_notV, x_ifE, x_eqI, x_neI, x_eqB, x_neB, x_tbm, x_never, x_make, x_meth, x_isII, x_isIC, x_bool1, decide_eq_true_eq, Bool.false_eq_true, if_false, if_true, List.append_nil, List.nil_append, List.cons_append, x_ixT (h3.same s) at0, x_ixT (h3.same s) at1, x_ixT (h4.same s) at0, x_ixT (h4.same s) at1, abs_if]; first | exact k | exact ⟨B1.ok2 B2, k⟩ | exact ⟨B1.ok2 Bu, k⟩ | exact ⟨BL.ok2 BL, BR.ok2 BR, k⟩ | exact ⟨BE.ok2 BE, k⟩)) (by omega) (B1.of (by omega)) (C1.of (by omega))) fun H1 I => ?_
  dsimp only
  rw [x_seq]
  refine I.put (by decide) rv (RowE.mk (x := u) (y := 1) (.make1 U (bu.mono (by decide))) (.lit U (fun H1 Q s k => by simp only [x_seq, x_if, x_test, x_B, x_op, x_un, x_varS, x_var0, x_c, x_I0, x_I, x_U, x_bl, x_ret, x_next, x_asg, x_name, x_set0, x_setS, x_drop, x_cb, x_cons, x_nil, x_int1, x_abs1, x_max2, x_gcd, x_gsub, x_sl, x_part, x_nopart, x_int, x_call, x_lst, x_tup, x_not, x_and, x_or, x_andV, x_orV, x_notV, x_ifE, x_eqI, x_neI, x_eqB, x_neB, x_tbm, x_never, x_make, x_meth, x_isII, x_isIC, x_bool1, decide_eq_true_eq, Bool.false_eq_true, if_false, if_true, List.append_nil, List.nil_append, List.cons_append, x_ixT (h3.same s) at0, x_ixT (h3.same s) at1, x_ixT (h4.same s) at0, x_ixT (h4.same s) at1, abs_if]; first | exact k | exact ⟨B1.ok2 B2, k⟩ | exact ⟨B1.ok2 Bu, k⟩ | exact ⟨BL.ok2 BL, BR.ok2 BR, k⟩ | exact ⟨BE.ok2 BE, k⟩)) (by decide) Bu (.one (by decide))) fun H1 I => ?_
  dsimp only
  -- first + second - second, the difference of the squares
  rw [x_seq]
  refine I.put (by decide) rv (RowE.mk (x := x1) (y := y1) ((FS.bin nok_sub S NE n2 BP BE B2 C2).conv (Int.mul_ne_zero NE n2) (by unfold subN addN; grind)) T1 n1 B1 C1) fun H1 I => ?_
  dsimp only
  rw [x_seq]
  refine I.put (by decide) rv (RowE.mk (x := x1 * y2 * (x1 * y2) - x2 * y1 * (x2 * y1)) (y := y1 * y2 * (y1 * y2)) ((FS.bin nok_mul FD NE NE BP BE BD BE).conv (Int.mul_ne_zero NE NE) (by unfold mulN subN addN; grind)) (.lit (fun H1 Q s k => by simp only [x_seq, x_if, x_test, x_B, x_op, x_un, x_varS, x_var0, x_c, x_I0, x_I, x_U, x_bl, x_ret, x_next, x_asg, x_name, x_set0, x_setS, x_drop, x_cb, x_cons, x_nil, x_int1, x_abs1, x_max2, x_gcd, x_gsub, x_sl, x_part, x_nopart, x_int, x_call, x_lst, x_tup, x_not, x_and, x_or, x_andV, x_orV, x_notV, x_ifE, x_eqI, x_neI, x_eqB, x_neB, x_tbm, x_never, x_make, x_meth, x_isII, x_isIC, x_bool1, decide_eq_true_eq, Bool.false_eq_true, if_false, if_true, List.append_nil, List.nil_append, List.cons_append, x_ixT (h3.same s) at0, x_ixT (h3.same s) at1, x_ixT (h4.same s) at0, x_ixT (h4.same s) at1, abs_if]; first | exact k | exact ⟨B1.ok2 B2, k⟩ | exact ⟨B1.ok2 Bu, k⟩ | exact ⟨BL.ok2 BL, BR.ok2 BR, k⟩ | exact ⟨BE.ok2 BE, k⟩) (fun H1 Q s k => by simp only [x_seq, x_if, x_test, x_B, x_op, x_un, x_varS, x_var0, x_c, x_I0, x_I, x_U, x_bl, x_ret, x_next, x_asg, x_name, x_set0, x_setS, x_drop, x_cb, x_cons, x_nil, x_int1, x_abs1, x_max2, x_gcd, x_gsub, x_sl, x_part, x_nopart, x_int, x_call, x_lst, x_tup, x_not, x_and, x_or, x_andV, x_orV, x_notV, x_ifE, x_eqI, x_neI, x_eqB, x_neB, x_tbm, x_never, x_make, x_meth, x_isII, x_isIC, x_bool1, decide_eq_true_eq, Bool.false_eq_true, if_false, if_true, List.append_nil, List.nil_append, List.cons_append, x_ixT (h3.same s) at0, x_ixT (h3.same s) at1, x_ixT (h4.same s) at0, x_ixT (h4.same s) at1, abs_if]; first | exact k | exact ⟨B1.ok2 B2, k⟩ | exact ⟨B1.ok2 Bu, k⟩ | exact ⟨BL.ok2 BL, BR.ok2 BR, k⟩ | exact ⟨BE.ok2 BE, k⟩)) (Int.mul_ne_zero NE NE) (((bl.mul bl).sub (br.mul br)).mono (by decide)) ((be.mul be).mono (by decide))) fun H1 I => ?_
  dsimp only
  -- the end: each row is right
  have fin : ∀ (m : Nat) (H1 : Hp), RI C H p m H1 → (tSeq (tFor (iList K (tVar 9)) (gName 10) ((tIfS (tNot (tB (tCall (spRight C) [] E0 (tCons (tOp rIx1 (tVar 10) (tC (.int 0))) (tCons (tOp rIx1 (tVar 10) (tC (.int 1))) tNil))))) (tRet (tC (.bl false))) tNext)))
      (tRet (tC (.bl true)))) { nx := fun _ H' => Q .non H', rt := Q } [some (.ref f), some (.ref s), some (.int u), some (.ref o1), some (.ref o2), some (.int (x1 * y2)), some (.int (x2 * y1)), some (.int (y1 * y2)), some (.int (u * y1)), some (.ref p), none] H1 := by
    intro m H1 ⟨s1, _, xs, hp, hx, hl⟩
    rw [x_seq]
    refine for_lstV (xs := xs) (ne_list rfl H1) (fun i σ H2 => H2 = H1 ∧ ∃ w : Option V, σ = [some (.ref f), some (.ref s), some (.int u), some (.ref o1), some (.ref o2), some (.int (x1 * y2)), some (.int (x2 * y1)), some (.int (y1 * y2)), some (.int (u * y1)), some (.ref p), w]) ⟨rfl, _, rfl⟩ ?_ ?_ ?_
    · rintro i σ H2 hi ⟨rfl, _⟩
      exact hp
    · rintro i v σ H2 hi ⟨rfl, w, rfl⟩
      obtain ⟨q, r, o, n, d, x, y, rfl, hq, hrr, ho, hnn, ny, bx, by'⟩ := hx v (List.mem_of_getElem? hi)
      have a0 : atI [V.ref r, .ref o] 0 = some (.ref r) := rfl
      have a1 : atI [V.ref r, .ref o] 1 = some (.ref o) := rfl
      simp only [x_seq, x_if, x_test, x_B, x_op, x_un, x_varS, x_var0, x_c, x_I0, x_I, x_U, x_bl, x_ret, x_next, x_asg, x_name, x_set0, x_setS, x_drop, x_cb, x_cons, x_nil, x_int1, x_abs1, x_max2, x_gcd, x_gsub, x_sl, x_part, x_nopart, x_int, x_call, x_lst, x_tup, x_not, x_and, x_or, x_andV, x_orV, x_notV, x_ifE, x_eqI, x_neI, x_eqB, x_neB, x_tbm, x_never, x_make, x_meth, x_isII, x_isIC, x_bool1, decide_eq_true_eq, Bool.false_eq_true, if_false, if_true, List.append_nil, List.nil_append, List.cons_append, x_ixT hq a0, x_ixT hq a1]
      have l := hnn.le ny
      exact ⟨r, o, n, d, x, y, rfl, hrr, ho, hnn, (bx.of l.1).mono (by decide), (by'.of l.2).mono (by decide), bx.mono (by decide), by'.mono (by decide), by simp only [x_seq, x_if, x_test, x_B, x_op, x_un, x_varS, x_var0, x_c, x_I0, x_I, x_U, x_bl, x_ret, x_next, x_asg, x_name, x_set0, x_setS, x_drop, x_cb, x_cons, x_nil, x_int1, x_abs1, x_max2, x_gcd, x_gsub, x_sl, x_part, x_nopart, x_int, x_call, x_lst, x_tup, x_not, x_and, x_or, x_andV, x_orV, x_notV, x_ifE, x_eqI, x_neI, x_eqB, x_neB, x_tbm, x_never, x_make, x_meth, x_isII, x_isIC, x_bool1, decide_eq_true_eq, Bool.false_eq_true, if_false, if_true, List.append_nil, List.nil_append, List.cons_append, Bool.not_true]; exact ⟨trivial, _, rfl⟩⟩
    · rintro σ H2 ⟨rfl, w, rfl⟩
      simp only [x_seq, x_if, x_test, x_B, x_op, x_un, x_varS, x_var0, x_c, x_I0, x_I, x_U, x_bl, x_ret, x_next, x_asg, x_name, x_set0, x_setS, x_drop, x_cb, x_cons, x_nil, x_int1, x_abs1, x_max2, x_gcd, x_gsub, x_sl, x_part, x_nopart, x_int, x_call, x_lst, x_tup, x_not, x_and, x_or, x_andV, x_orV, x_notV, x_ifE, x_eqI, x_neI, x_eqB, x_neB, x_tbm, x_never, x_make, x_meth, x_isII, x_isIC, x_bool1, decide_eq_true_eq, Bool.false_eq_true, if_false, if_true, List.append_nil, List.nil_append, List.cons_append]
      exact k _ s1
  -- where the number is not zero
  have numb : ∀ (m : Nat) (H1 : Hp), m < 1000 → RI C H p m H1 → (tSeq (tIfS (tTest (tOp rNe (tVar 2) (tC (.int 0)))) (tDrop (tBM K "list" rAppend (tVar 9) (tCons (tTup (tCons (tMeth C "over" (spOver C Z) [] E0 (tVar 0) (tCons (tVar 2) tNil)) (tCons (tTup (tCons (tOp rIx1 (tVar 3) (tC (.int 0))) (tCons (tVar 8) tNil))) tNil))) tNil))) tNext)
    (tSeq (tFor (iList K (tVar 9)) (gName 10) ((tIfS (tNot (tB (tCall (spRight C) [] E0 (tCons (tOp rIx1 (tVar 10) (tC (.int 0))) (tCons (tOp rIx1 (tVar 10) (tC (.int 1))) tNil))))) (tRet (tC (.bl false))) tNext)))
      (tRet (tC (.bl true))))) { nx := fun _ H' => Q .non H', rt := Q } [some (.ref f), some (.ref s), some (.int u), some (.ref o1), some (.ref o2), some (.int (x1 * y2)), some (.int (x2 * y1)), some (.int (y1 * y2)), some (.int (u * y1)), some (.ref p), none] H1 := by
    intro m H1 hm I
    rw [x_seq]
    refine do_ne U I.same (fun nu => ?_) fun _ => fin m H1 I
    refine I.put hm rv (RowE.mk (x := x1) (y := u * y1) ((F.overI U n1 nu B1 C1 Bu).conv (Int.mul_ne_zero n1 nu) (by grind)) (.lit (fun H1 Q s k => by simp only [x_seq, x_if, x_test, x_B, x_op, x_un, x_varS, x_var0, x_c, x_I0, x_I, x_U, x_bl, x_ret, x_next, x_asg, x_name, x_set0, x_setS, x_drop, x_cb, x_cons, x_nil, x_int1, x_abs1, x_max2, x_gcd, x_gsub, x_sl, x_part, x_nopart, x_int, x_call, x_lst, x_tup, x_not, x_and, x_or, x_andV, x_orV, x_notV, x_ifE, x_eqI, x_neI, x_eqB, x_neB, x_tbm, x_never, x_make, x_meth, x_isII, x_isIC, x_bool1, decide_eq_true_eq, Bool.false_eq_true, if_false, if_true, List.append_nil, List.nil_append, List.cons_append, x_ixT (h3.same s) at0, x_ixT (h3.same s) at1, x_ixT (h4.same s) at0, x_ixT (h4.same s) at1, abs_if]; first | exact k | exact ⟨B1.ok2 B2, k⟩ | exact ⟨B1.ok2 Bu, k⟩ | exact ⟨BL.ok2 BL, BR.ok2 BR, k⟩ | exact ⟨BE.ok2 BE, k⟩) (fun H1 Q s k => by simp only [x_seq, x_if, x_test, x_B, x_op, x_un, x_varS, x_var0, x_c, x_I0, x_I, x_U, x_bl, x_ret, x_next, x_asg, x_name, x_set0, x_setS, x_drop, x_cb, x_cons, x_nil, x_int1, x_abs1, x_max2, x_gcd, x_gsub, x_sl, x_part, x_nopart, x_int, x_call, x_lst, x_tup, x_not, x_and, x_or, x_andV, x_orV, x_notV, x_ifE, x_eqI, x_neI, x_eqB, x_neB, x_tbm, x_never, x_make, x_meth, x_isII, x_isIC, x_bool1, decide_eq_true_eq, Bool.false_eq_true, if_false, if_true, List.append_nil, List.nil_append, List.cons_append, x_ixT (h3.same s) at0, x_ixT (h3.same s) at1, x_ixT (h4.same s) at0, x_ixT (h4.same s) at1, abs_if]; first | exact k | exact ⟨B1.ok2 B2, k⟩ | exact ⟨B1.ok2 Bu, k⟩ | exact ⟨BL.ok2 BL, BR.ok2 BR, k⟩ | exact ⟨BE.ok2 BE, k⟩)) (Int.mul_ne_zero nu n1) B1 BM) fun H1 I => ?_
    exact fin _ H1 I
  rw [x_seq]
  refine do_ne (x := x2) (fun H1 Q s k => by simp only [x_seq, x_if, x_test, x_B, x_op, x_un, x_varS, x_var0, x_c, x_I0, x_I, x_U, x_bl, x_ret, x_next, x_asg, x_name, x_set0, x_setS, x_drop, x_cb, x_cons, x_nil, x_int1, x_abs1, x_max2, x_gcd, x_gsub, x_sl, x_part, x_nopart, x_int, x_call, x_lst, x_tup, x_not, x_and, x_or, x_andV, x_orV, x_notV, x_ifE, x_eqI, x_neI, x_eqB, x_neB, x_tbm, x_never, x_make, x_meth, x_isII, x_isIC, x_bool1, decide_eq_true_eq, Bool.false_eq_true, if_false, if_true, List.append_nil, List.nil_append, List.cons_append, x_ixT (h3.same s) at0, x_ixT (h3.same s) at1, x_ixT (h4.same s) at0, x_ixT (h4.same s) at1, abs_if]; first | exact k | exact ⟨B1.ok2 B2, k⟩ | exact ⟨B1.ok2 Bu, k⟩ | exact ⟨BL.ok2 BL, BR.ok2 BR, k⟩ | exact ⟨BE.ok2 BE, k⟩) I.same (fun nx => ?_) fun _ => numb _ H1 (by decide) I
  rw [x_seq]
  refine I.put (by decide) rv (RowE.mk (x := x1 * y2) (y := x2 * y1) ((F.over S n1 n2 nx B1 C1 B2 C2).conv (Int.mul_ne_zero n1 nx) (by grind)) (.lit (fun H1 Q s k => by simp only [x_seq, x_if, x_test, x_B, x_op, x_un, x_varS, x_var0, x_c, x_I0, x_I, x_U, x_bl, x_ret, x_next, x_asg, x_name, x_set0, x_setS, x_drop, x_cb, x_cons, x_nil, x_int1, x_abs1, x_max2, x_gcd, x_gsub, x_sl, x_part, x_nopart, x_int, x_call, x_lst, x_tup, x_not, x_and, x_or, x_andV, x_orV, x_notV, x_ifE, x_eqI, x_neI, x_eqB, x_neB, x_tbm, x_never, x_make, x_meth, x_isII, x_isIC, x_bool1, decide_eq_true_eq, Bool.false_eq_true, if_false, if_true, List.append_nil, List.nil_append, List.cons_append, x_ixT (h3.same s) at0, x_ixT (h3.same s) at1, x_ixT (h4.same s) at0, x_ixT (h4.same s) at1, abs_if]; first | exact k | exact ⟨B1.ok2 B2, k⟩ | exact ⟨B1.ok2 Bu, k⟩ | exact ⟨BL.ok2 BL, BR.ok2 BR, k⟩ | exact ⟨BE.ok2 BE, k⟩) (fun H1 Q s k => by simp only [x_seq, x_if, x_test, x_B, x_op, x_un, x_varS, x_var0, x_c, x_I0, x_I, x_U, x_bl, x_ret, x_next, x_asg, x_name, x_set0, x_setS, x_drop, x_cb, x_cons, x_nil, x_int1, x_abs1, x_max2, x_gcd, x_gsub, x_sl, x_part, x_nopart, x_int, x_call, x_lst, x_tup, x_not, x_and, x_or, x_andV, x_orV, x_notV, x_ifE, x_eqI, x_neI, x_eqB, x_neB, x_tbm, x_never, x_make, x_meth, x_isII, x_isIC, x_bool1, decide_eq_true_eq, Bool.false_eq_true, if_false, if_true, List.append_nil, List.nil_append, List.cons_append, x_ixT (h3.same s) at0, x_ixT (h3.same s) at1, x_ixT (h4.same s) at0, x_ixT (h4.same s) at1, abs_if]; first | exact k | exact ⟨B1.ok2 B2, k⟩ | exact ⟨B1.ok2 Bu, k⟩ | exact ⟨BL.ok2 BL, BR.ok2 BR, k⟩ | exact ⟨BE.ok2 BE, k⟩)) (Int.mul_ne_zero nx n1) BL BR) fun H1 I => ?_
  dsimp only
  refine I.put (by decide) rv (RowE.mk (x := x1) (y := y1) ((FM.over S NE n2 nx ((b1.mul b2).mono (by decide)) BE B2 C2).conv (Int.mul_ne_zero NE nx) (by unfold mulN; grind)) T1 n1 B1 C1) fun H1 I => ?_
  exact numb _ H1 (by decide) I
end SpX

set_option Elab.async false
set_option linter.all false
set_option maxRecDepth 100000
set_option maxHeartbeats 4000000
namespace SpX
open PySem PySem.Spec L2
/-! ### a list that grows by rows of any kind -/
/-- a property of a value that stays while only the list at p grows -/
structure Stays (R : Hp → V → Prop) : Prop where
  keep : ∀ {p : Addr} {H H' : Hp} {v : V} {xs : List V}, R H v → H p = some (.lst xs) → Keep p H H' → R H' v
  same : ∀ {H H' : Hp} {v : V}, R H v → Same H H' → R H' v
def RowG (R : Hp → V → Prop) (H : Hp) (σ : L2.St) (te : TE) : Prop := ∀ (H1 : Hp) (Q : VK), Same H H1 → (∀ v H2, Same H1 H2 → R H2 v → Q v H2) → te σ H1 Q
structure GI (R : Hp → V → Prop) (H : Hp) (p : Addr) (m : Nat) (H' : Hp) : Prop where
  same : Same H H'
  new : H p = none
  rows : ∃ xs, H' p = some (.lst xs) ∧ (∀ v ∈ xs, R H' v) ∧ xs.length ≤ m
section
variable {R : Hp → V → Prop} {H : Hp} {σ : L2.St} {te : TE}
theorem GI.put (S : Stays R) {K : PySem.W.Frag} {D : Ends} {p : Addr} {m : Nat} {H' : Hp} {tr : TE} (I : GI R H p m H') (hm : m < 1000) (he : ∀ H Q, te σ H Q = Q (.ref p) H) (hr : RowG R H σ tr) (k : ∀ H'', GI R H p (m + 1) H'' → D.nx σ H'') :
    tDrop (tBM K "list" rAppend te (tCons tr tNil)) D σ H' := by
  obtain ⟨s, np, xs, hp, hx, hl⟩ := I
  rw [x_drop, x_tbm, he]
  refine ⟨ty_lst hp, ?_⟩
  rw [x_cons]
  refine hr H' _ s fun v H2 s2 hv => ?_
  rw [x_nil]
  have hp2 := s2 _ _ hp
  rw [x_append hp2 (Nat.lt_of_le_of_lt hl (Nat.lt_of_lt_of_le hm (by decide)))]
  have kp : Keep p H2 (upd H2 p (.lst (xs ++ [v]))) := Keep.at (Keep.refl _ _)
  refine k _ ⟨?_, np, _, upd_same, ?_, ?_⟩
  · intro b o e
    rw [upd_ne (ne_of_none e np)]
    exact s2 _ _ (s _ _ e)
  · intro w hw
    rcases List.mem_append.mp hw with h | h
    · exact S.keep (S.same (hx w h) s2) hp2 kp
    · rw [List.mem_singleton.mp h]
      exact S.keep hv hp2 kp
  · rw [List.length_append]
    simp only [List.length_cons, List.length_nil]
    omega
theorem GI.two (S : Stays R) {D : Ends} {tr tr' : TE} {i : Nat} (hr : RowG R H σ tr) (hr' : RowG R H σ tr') (k : ∀ p H', GI R H p 2 H' → D.nx (σ.set i (some (.ref p))) H') : tAsg (tLst (tCons tr (tCons tr' tNil))) (gName i) D σ H := by
  rw [x_asg, x_lst, x_cons]
  refine hr H _ (fun _ _ e => e) fun v H1 s1 hv => ?_
  rw [x_cons]
  refine hr' H1 _ s1 fun w H2 s2 hw => ?_
  rw [x_nil]
  refine ⟨two_ok, fun p hp => ?_⟩
  rw [x_name]
  refine k p _ ⟨Same.new' (s1.trans s2) hp, (s1.trans s2).free hp, [v, w], upd_same, ?_, Nat.le_refl _⟩
  intro z hz
  rcases List.mem_cons.mp hz with h | h
  · rw [h]
    exact S.same (S.same hv s2) (Same.new hp)
  · rw [List.mem_singleton.mp h]
    exact S.same hw (Same.new hp)
/-- the same int twice -/
def RowI (H : Hp) (v : V) : Prop := ∃ (q : Addr) (x : Int), v = .ref q ∧ H q = some (.tup [.int x, .int x])
theorem stays_int : Stays RowI where
  keep := fun ⟨q, x, e, hq⟩ hp k => ⟨q, x, e, k _ _ (lst_tup hp hq) hq⟩
  same := fun ⟨q, x, e, hq⟩ k => ⟨q, x, e, k _ _ hq⟩
/-- an int, whatever new comes beside -/
def IntS (H : Hp) (σ : L2.St) (te : TE) (x : Int) : Prop := ∀ (H1 : Hp) (Q : VK), Same H H1 → (∀ H2, Same H1 H2 → Q (.int x) H2) → te σ H1 Q
theorem RowI.mk {tx ty : TE} {x y : Int} (hx : IntS H σ tx x) (hy : IntS H σ ty y) (e : x = y) : RowG RowI H σ (tTup (tCons tx (tCons ty tNil))) := by
  subst e
  intro H1 Q s k
  rw [x_tup, x_cons]
  refine hx H1 _ s fun H2 s2 => ?_
  rw [x_cons]
  refine hy H2 _ (s.trans s2) fun H3 s3 => ?_
  rw [x_nil]
  exact ⟨two_ok, fun q hq => k _ _ (Same.new' (s2.trans s3) hq) ⟨q, x, rfl, upd_same⟩⟩
theorem IntE.s {x : Int} (h : IntE H σ te x) : IntS H σ te x := fun H1 Q s k => h H1 Q s (k H1 fun _ _ e => e)
end
theorem sign_sq {y : Int} (h : y ≠ 0) : y.sign * y.sign = 1 := by
  rcases Int.lt_or_lt_of_ne h with h | h
  · rw [Int.sign_eq_neg_one_of_neg h]; rfl
  · rw [Int.sign_eq_one_of_pos h]; rfl
theorem sign_of {n d x y : Int} (e : n * y = x * d) (hd : 0 < d) (hy : y ≠ 0) : n.sign = x.sign * y.sign := by
  have h := congrArg Int.sign e
  rw [Int.sign_mul, Int.sign_mul, Int.sign_eq_one_of_pos hd, Int.mul_one] at h
  rw [← h, Int.mul_assoc, sign_sq hy, Int.mul_one]
def spSigns (C : Addr) : Sp := fun vs H Q _ => ∃ (f s o1 o2 : Addr) (x1 y1 x2 y2 : Int), vs = [.ref f, .ref s, .ref o1, .ref o2] ∧ Base C H f s o1 o2 x1 y1 x2 y2 ∧ ∀ H', Same H H' → Q (.bl true) H'
def t_signs (K : PySem.W.Frag) (C Z : Addr) (E : XK) : TS :=
    (tSeq (tAsg (tCall spSide [] E0 (tCons (tOp (rI0 fun i j => .int (i - j)) (tOp (rI IntMulOk fun i j => .int (i * j)) (tOp rIx1 (tVar 2) (tC (.int 0))) (tOp rIx1 (tVar 3) (tC (.int 1)))) (tOp (rI IntMulOk fun i j => .int (i * j)) (tOp rIx1 (tVar 3) (tC (.int 0))) (tOp rIx1 (tVar 2) (tC (.int 1))))) (tCons (tOp (rI IntMulOk fun i j => .int (i * j)) (tOp rIx1 (tVar 2) (tC (.int 1))) (tOp rIx1 (tVar 3) (tC (.int 1)))) tNil))) (gName 4))
    (tSeq (tAsg (tLst (tCons (tTup (tCons (tMeth C "sign" (spSign C) [] E0 (tVar 0) tNil) (tCons (tCall spSide [] E0 (tCons (tOp rIx1 (tVar 2) (tC (.int 0))) (tCons (tOp rIx1 (tVar 2) (tC (.int 1))) tNil))) tNil))) (tCons (tTup (tCons (tMeth C "sign" (spSign C) [] E0 (tVar 1) tNil) (tCons (tCall spSide [] E0 (tCons (tOp rIx1 (tVar 3) (tC (.int 0))) (tCons (tOp rIx1 (tVar 3) (tC (.int 1))) tNil))) tNil))) tNil))) (gName 5))
    (tSeq (tDrop (tBM K "list" rAppend (tVar 5) (tCons (tTup (tCons (tCall (spCompare C) [] E0 (tCons (tVar 0) (tCons (tVar 1) tNil))) (tCons (tVar 4) tNil))) tNil)))
    (tSeq (tDrop (tBM K "list" rAppend (tVar 5) (tCons (tTup (tCons (tCall (spCompare C) [] E0 (tCons (tVar 1) (tCons (tVar 0) tNil))) (tCons (tUn (rU fun i => .int (-i)) (tVar 4)) tNil))) tNil)))
    (tSeq (tDrop (tBM K "list" rAppend (tVar 5) (tCons (tTup (tCons (tCall (spCompare C) [] E0 (tCons (tVar 0) (tCons (tVar 0) tNil))) (tCons (tC (.int 0)) tNil))) tNil)))
    (tSeq (tFor (iList K (tVar 5)) (gName 6) ((tIfS (tOr (tNot (tB (tCall spInteger [] E0 (tCons (tOp rIx1 (tVar 6) (tC (.int 0))) tNil)))) (tTest (tOp rNe (tOp rIx1 (tVar 6) (tC (.int 0))) (tOp rIx1 (tVar 6) (tC (.int 1)))))) (tRet (tC (.bl false))) tNext)))
    (tRet (tC (.bl true)))))))))
theorem pure_signs {K : PySem.W.Frag} {C Z : Addr} (vs : List V) (H : Hp) (Q : VK) (E : XK) (h : spSigns C vs H Q E) : t_signs K C Z E { nx := fun _ H' => Q .non H', rt := Q } (start ["first", "second", "one", "two", "apart", "rows", "row"] vs) H := by
  obtain ⟨f, s, o1, o2, x1, y1, x2, y2, rfl, ⟨⟨t, b, hr, hn⟩, ⟨t', b', hr', hn'⟩, h3, h4, n1, n2, b1, c1, b2, c2⟩, k⟩ := h
  have B1 : Bd 2000 x1 := b1.mono (by decide)
  have C1 : Bd 2000 y1 := c1.mono (by decide)
  have B2 : Bd 2000 x2 := b2.mono (by decide)
  have C2 : Bd 2000 y2 := c2.mono (by decide)
  have l1 := hn.le n1
  have l2 := hn'.le n2
  have q1 := hn.eq
  have q2 := hn'.eq
  show t_signs K C Z E _ [some (.ref f), some (.ref s), some (.ref o1), some (.ref o2), none, none, none] H
  unfold t_signs
  have s0 : Same H H := fun _ _ e => e
  have NE : y1 * y2 ≠ 0 := Int.mul_ne_zero n1 n2
  have pb : 0 < b * b' := Int.mul_pos hn.pos hn'.pos
  have ea : (t * b' - t' * b).sign = (x1 * y2 - x2 * y1).sign * (y1 * y2).sign := sign_of (d := b * b') (by grind) pb NE
  rw [x_seq]
  refine do_int (x := (t * b' - t' * b).sign) (fun H1 Q s k => by
    simp only [x_seq, x_if, x_test, x_B, x_op, x_un, x_varS, x_var0, x_c, x_I0, x_I, x_U, x_bl, x_ret, x_next, x_asg, x_name, x_set0, x_setS, x_drop, x_cb, x_cons, x_nil, x_int1, x_abs1, x_max2, x_gcd, x_gsub, x_sl, x_part, x_nopart, x_int, x_call, x_lst, x_tup, x_not, x_and, x_or, x_andV, x_orV, x_notV, x_ifE, x_eqI, x_neI, x_eqB, x_neB, x_tbm, x_never, x_make, x_meth, x_isII, x_isIC, x_bool1, decide_eq_true_eq, Bool.false_eq_true, if_false, if_true, List.append_nil, List.nil_append, List.cons_append, x_ixT (h3.same s) at0, x_ixT (h3.same s) at1, x_ixT (h4.same s) at0, x_ixT (h4.same s) at1]
    exact ⟨B1.ok2 C2, B2.ok2 C1, C1.ok2 C2, _, _, rfl, NE, by rw [← ea]; exact k⟩) s0 ?_
  simp only [x_setS, x_set0]
  have side1 : ∀ σ : L2.St, ∀ a b c : Option V, IntS H [some (.ref f), some (.ref s), some (.ref o1), some (.ref o2), a, b, c] (tCall spSide [] E0 (tCons (tOp rIx1 (tVar 2) (tC (.int 0))) (tCons (tOp rIx1 (tVar 2) (tC (.int 1))) tNil))) (x1.sign * y1.sign) :=
    fun σ a b c H1 Q s k => by
      simp only [x_seq, x_if, x_test, x_B, x_op, x_un, x_varS, x_var0, x_c, x_I0, x_I, x_U, x_bl, x_ret, x_next, x_asg, x_name, x_set0, x_setS, x_drop, x_cb, x_cons, x_nil, x_int1, x_abs1, x_max2, x_gcd, x_gsub, x_sl, x_part, x_nopart, x_int, x_call, x_lst, x_tup, x_not, x_and, x_or, x_andV, x_orV, x_notV, x_ifE, x_eqI, x_neI, x_eqB, x_neB, x_tbm, x_never, x_make, x_meth, x_isII, x_isIC, x_bool1, decide_eq_true_eq, Bool.false_eq_true, if_false, if_true, List.append_nil, List.nil_append, List.cons_append, x_ixT (h3.same s) at0, x_ixT (h3.same s) at1]
      exact ⟨_, _, rfl, n1, k _ fun _ _ e => e⟩
  have side2 : ∀ σ : L2.St, ∀ a b c : Option V, IntS H [some (.ref f), some (.ref s), some (.ref o1), some (.ref o2), a, b, c] (tCall spSide [] E0 (tCons (tOp rIx1 (tVar 3) (tC (.int 0))) (tCons (tOp rIx1 (tVar 3) (tC (.int 1))) tNil))) (x2.sign * y2.sign) :=
    fun σ a b c H1 Q s k => by
      simp only [x_seq, x_if, x_test, x_B, x_op, x_un, x_varS, x_var0, x_c, x_I0, x_I, x_U, x_bl, x_ret, x_next, x_asg, x_name, x_set0, x_setS, x_drop, x_cb, x_cons, x_nil, x_int1, x_abs1, x_max2, x_gcd, x_gsub, x_sl, x_part, x_nopart, x_int, x_call, x_lst, x_tup, x_not, x_and, x_or, x_andV, x_orV, x_notV, x_ifE, x_eqI, x_neI, x_eqB, x_neB, x_tbm, x_never, x_make, x_meth, x_isII, x_isIC, x_bool1, decide_eq_true_eq, Bool.false_eq_true, if_false, if_true, List.append_nil, List.nil_append, List.cons_append, x_ixT (h4.same s) at0, x_ixT (h4.same s) at1]
      exact ⟨_, _, rfl, n2, k _ fun _ _ e => e⟩
  have sg1 : ∀ a b c : Option V, IntS H [some (.ref f), some (.ref s), some (.ref o1), some (.ref o2), a, b, c] (tMeth C "sign" (spSign C) [] E0 (tVar 0) tNil) t.sign :=
    fun a b c H1 Q s k => by
      have hr1 := hr.same s
      obtain ⟨dx, e⟩ := id hr1
      simp only [x_seq, x_if, x_test, x_B, x_op, x_un, x_varS, x_var0, x_c, x_I0, x_I, x_U, x_bl, x_ret, x_next, x_asg, x_name, x_set0, x_setS, x_drop, x_cb, x_cons, x_nil, x_int1, x_abs1, x_max2, x_gcd, x_gsub, x_sl, x_part, x_nopart, x_int, x_call, x_lst, x_tup, x_not, x_and, x_or, x_andV, x_orV, x_notV, x_ifE, x_eqI, x_neI, x_eqB, x_neB, x_tbm, x_never, x_make, x_meth, x_isII, x_isIC, x_bool1, decide_eq_true_eq, Bool.false_eq_true, if_false, if_true, List.append_nil, List.nil_append, List.cons_append]
      exact ⟨_, _, _, rfl, e, look_sign, _, _, _, rfl, hr1, k _ fun _ _ e => e⟩
  have sg2 : ∀ a b c : Option V, IntS H [some (.ref f), some (.ref s), some (.ref o1), some (.ref o2), a, b, c] (tMeth C "sign" (spSign C) [] E0 (tVar 1) tNil) t'.sign :=
    fun a b c H1 Q s k => by
      have hr1 := hr'.same s
      obtain ⟨dx, e⟩ := id hr1
      simp only [x_seq, x_if, x_test, x_B, x_op, x_un, x_varS, x_var0, x_c, x_I0, x_I, x_U, x_bl, x_ret, x_next, x_asg, x_name, x_set0, x_setS, x_drop, x_cb, x_cons, x_nil, x_int1, x_abs1, x_max2, x_gcd, x_gsub, x_sl, x_part, x_nopart, x_int, x_call, x_lst, x_tup, x_not, x_and, x_or, x_andV, x_orV, x_notV, x_ifE, x_eqI, x_neI, x_eqB, x_neB, x_tbm, x_never, x_make, x_meth, x_isII, x_isIC, x_bool1, decide_eq_true_eq, Bool.false_eq_true, if_false, if_true, List.append_nil, List.nil_append, List.cons_append]
      exact ⟨_, _, _, rfl, e, look_sign, _, _, _, rfl, hr1, k _ fun _ _ e => e⟩
  have cm : ∀ a b c : Option V, ∀ (i j : Nat) (p q : Addr) (n d n' d' : Int), (∀ H Q, tVar i [some (.ref f), some (.ref s), some (.ref o1), some (.ref o2), a, b, c] H Q = Q (.ref p) H) → (∀ H Q, tVar j [some (.ref f), some (.ref s), some (.ref o1), some (.ref o2), a, b, c] H Q = Q (.ref q) H) →
      RatAt C H p n d → RatAt C H q n' d' → Low n d → Low n' d' → Bd 2000 n → Bd 2000 d → Bd 2000 n' → Bd 2000 d' → 
      IntS H [some (.ref f), some (.ref s), some (.ref o1), some (.ref o2), a, b, c] (tCall (spCompare C) [] E0 (tCons (tVar i) (tCons (tVar j) tNil))) (n * d' - n' * d).sign :=
    fun a b c i j p q n d n' d' hi hj r1 r2 w1 w2 e1 e2 e3 e4 H1 Q s k => by
      rw [x_call, x_cons, hi, x_cons, hj, x_nil]
      exact ⟨p, q, n, d, n', d', rfl, r1.same s, r2.same s, w1, w2, e1, e2, e3, e4, k⟩
  rw [x_seq]
  refine GI.two stays_int (RowI.mk (sg1 _ _ _) (side1 [] _ _ _) (sign_of q1 hn.pos n1)) (RowI.mk (sg2 _ _ _) (side2 [] _ _ _) (sign_of q2 hn'.pos n2)) fun p H1 I => ?_
  simp only [x_setS, x_set0]
  have rv : ∀ H Q, tVar 5 [some (.ref f), some (.ref s), some (.ref o1), some (.ref o2), some (.int (t * b' - t' * b).sign), some (.ref p), none] H Q = Q (.ref p) H := ne_list rfl
  rw [x_seq]
  refine I.put stays_int (by decide) rv (RowI.mk (cm _ _ _ 0 1 f s t b t' b' (ne_list rfl) (ne_list rfl) hr hr' hn.low hn'.low (B1.of l1.1) (C1.of l1.2) (B2.of l2.1) (C2.of l2.2)) (IntE.s fun H1 Q s k => by simp only [x_seq, x_if, x_test, x_B, x_op, x_un, x_varS, x_var0, x_c, x_I0, x_I, x_U, x_bl, x_ret, x_next, x_asg, x_name, x_set0, x_setS, x_drop, x_cb, x_cons, x_nil, x_int1, x_abs1, x_max2, x_gcd, x_gsub, x_sl, x_part, x_nopart, x_int, x_call, x_lst, x_tup, x_not, x_and, x_or, x_andV, x_orV, x_notV, x_ifE, x_eqI, x_neI, x_eqB, x_neB, x_tbm, x_never, x_make, x_meth, x_isII, x_isIC, x_bool1, decide_eq_true_eq, Bool.false_eq_true, if_false, if_true, List.append_nil, List.nil_append, List.cons_append]; exact k) rfl) fun H1 I => ?_
  dsimp only
  rw [x_seq]
  refine I.put stays_int (by decide) rv (RowI.mk (cm _ _ _ 1 0 s f t' b' t b (ne_list rfl) (ne_list rfl) hr' hr hn'.low hn.low (B2.of l2.1) (C2.of l2.2) (B1.of l1.1) (C1.of l1.2)) (IntE.s (x := -(t * b' - t' * b).sign) fun H1 Q s k => by simp only [x_seq, x_if, x_test, x_B, x_op, x_un, x_varS, x_var0, x_c, x_I0, x_I, x_U, x_bl, x_ret, x_next, x_asg, x_name, x_set0, x_setS, x_drop, x_cb, x_cons, x_nil, x_int1, x_abs1, x_max2, x_gcd, x_gsub, x_sl, x_part, x_nopart, x_int, x_call, x_lst, x_tup, x_not, x_and, x_or, x_andV, x_orV, x_notV, x_ifE, x_eqI, x_neI, x_eqB, x_neB, x_tbm, x_never, x_make, x_meth, x_isII, x_isIC, x_bool1, decide_eq_true_eq, Bool.false_eq_true, if_false, if_true, List.append_nil, List.nil_append, List.cons_append]; exact k) (by rw [← Int.sign_neg]; congr 1; omega)) fun H1 I => ?_
  dsimp only
  rw [x_seq]
  refine I.put stays_int (by decide) rv (RowI.mk (cm _ _ _ 0 0 f f t b t b (ne_list rfl) (ne_list rfl) hr hr hn.low hn.low (B1.of l1.1) (C1.of l1.2) (B1.of l1.1) (C1.of l1.2)) (IntE.s (x := 0) fun H1 Q s k => by simp only [x_seq, x_if, x_test, x_B, x_op, x_un, x_varS, x_var0, x_c, x_I0, x_I, x_U, x_bl, x_ret, x_next, x_asg, x_name, x_set0, x_setS, x_drop, x_cb, x_cons, x_nil, x_int1, x_abs1, x_max2, x_gcd, x_gsub, x_sl, x_part, x_nopart, x_int, x_call, x_lst, x_tup, x_not, x_and, x_or, x_andV, x_orV, x_notV, x_ifE, x_eqI, x_neI, x_eqB, x_neB, x_tbm, x_never, x_make, x_meth, x_isII, x_isIC, x_bool1, decide_eq_true_eq, Bool.false_eq_true, if_false, if_true, List.append_nil, List.nil_append, List.cons_append]; exact k) (by rw [Int.sub_self]; rfl)) fun H1 I => ?_
  dsimp only
  obtain ⟨s1, _, xs, hp, hx, hl⟩ := I
  rw [x_seq]
  refine for_lstV (xs := xs) (ne_list rfl H1) (fun i σ H2 => H2 = H1 ∧ ∃ w : Option V, σ = [some (.ref f), some (.ref s), some (.ref o1), some (.ref o2), some (.int (t * b' - t' * b).sign), some (.ref p), w]) ⟨rfl, _, rfl⟩ ?_ ?_ ?_
  · rintro i σ H2 hi ⟨rfl, _⟩
    exact hp
  · rintro i v σ H2 hi ⟨rfl, w, rfl⟩
    obtain ⟨q, x, rfl, hq⟩ := hx v (List.mem_of_getElem? hi)
    simp only [x_seq, x_if, x_test, x_B, x_op, x_un, x_varS, x_var0, x_c, x_I0, x_I, x_U, x_bl, x_ret, x_next, x_asg, x_name, x_set0, x_setS, x_drop, x_cb, x_cons, x_nil, x_int1, x_abs1, x_max2, x_gcd, x_gsub, x_sl, x_part, x_nopart, x_int, x_call, x_lst, x_tup, x_not, x_and, x_or, x_andV, x_orV, x_notV, x_ifE, x_eqI, x_neI, x_eqB, x_neB, x_tbm, x_never, x_make, x_meth, x_isII, x_isIC, x_bool1, decide_eq_true_eq, Bool.false_eq_true, if_false, if_true, List.append_nil, List.nil_append, List.cons_append, x_ixT hq at0, x_ixT hq at1]
    refine int_of ?_
    simp only [x_seq, x_if, x_test, x_B, x_op, x_un, x_varS, x_var0, x_c, x_I0, x_I, x_U, x_bl, x_ret, x_next, x_asg, x_name, x_set0, x_setS, x_drop, x_cb, x_cons, x_nil, x_int1, x_abs1, x_max2, x_gcd, x_gsub, x_sl, x_part, x_nopart, x_int, x_call, x_lst, x_tup, x_not, x_and, x_or, x_andV, x_orV, x_notV, x_ifE, x_eqI, x_neI, x_eqB, x_neB, x_tbm, x_never, x_make, x_meth, x_isII, x_isIC, x_bool1, decide_eq_true_eq, Bool.false_eq_true, if_false, if_true, List.append_nil, List.nil_append, List.cons_append, x_ixT hq at0, x_ixT hq at1, Bool.not_true]
    refine ite2 (fun h => by simp at h) fun _ => ?_
    exact ⟨trivial, _, rfl⟩
  · rintro σ H2 ⟨rfl, w, rfl⟩
    simp only [x_seq, x_if, x_test, x_B, x_op, x_un, x_varS, x_var0, x_c, x_I0, x_I, x_U, x_bl, x_ret, x_next, x_asg, x_name, x_set0, x_setS, x_drop, x_cb, x_cons, x_nil, x_int1, x_abs1, x_max2, x_gcd, x_gsub, x_sl, x_part, x_nopart, x_int, x_call, x_lst, x_tup, x_not, x_and, x_or, x_andV, x_orV, x_notV, x_ifE, x_eqI, x_neI, x_eqB, x_neB, x_tbm, x_never, x_make, x_meth, x_isII, x_isIC, x_bool1, decide_eq_true_eq, Bool.false_eq_true, if_false, if_true, List.append_nil, List.nil_append, List.cons_append]
    exact k _ s1
theorem make_at {C Z p dx : Addr} {H : Hp} {Q : Hp → Prop} {E : XK} {x y : Int} (bx : Bd 8000 x) (by' : Bd 8000 y) (hy : y ≠ 0) (np : H p = none) (nd : H dx = none) (ne : dx ≠ p) (k : ∀ H' n d, RatAt C H' p n d → Norm n d x y → Same H H' → Q H') :
    spInit C Z [.ref p, .int x, .int y] (upd (upd H dx (.own p)) p (.ins C dx [])) (fun v H2 => v = .non ∧ Q H2) E := by
  refine ⟨p, dx, x, y, rfl, upd_same, bx, by', fun e => absurd e hy, fun _ t b hn => ⟨rfl, ?_⟩⟩
  refine k _ t b ⟨dx, upd_same⟩ hn fun c o e => ?_
  rw [upd_ne (ne_of_none e np), upd_ne (ne_of_none e np), upd_ne (ne_of_none e nd)]
  exact e
theorem eq_of {C p : Addr} {H : Hp} {v : V} {t b u c : Int} {P : Prop} [Decidable P] {Q : VK} {E : XK} (hr : RatAt C H p t b) (hv : NumAt C H v u c) (l : Low t b) (l' : Low u c) (e : t * c = u * b ↔ P) (k : Q (.bl (decide P)) H) : spEq C [.ref p, v] H Q E := by
  refine ⟨p, v, t, b, u, c, rfl, hr, hv, l, l', ?_⟩
  have ed : decide (t * c = u * b) = decide P := decide_eq_decide.mpr e
  rw [ed]
  exact k
/-- comparisons -/
def spCompared (C : Addr) : Sp := fun vs H Q _ => ∃ (f s o1 o2 : Addr) (x1 y1 x2 y2 u : Int), vs = [.ref f, .ref s, .int u, .ref o1, .ref o2] ∧ Base C H f s o1 o2 x1 y1 x2 y2 ∧ Bd 256 u ∧ ∀ H', Same H H' → Q (.bl true) H'
def t_compared (K : PySem.W.Frag) (C Z : Addr) (E : XK) : TS :=
    (tSeq (tAsg (tOp rEq (tOp (rI IntMulOk fun i j => .int (i * j)) (tOp rIx1 (tVar 3) (tC (.int 0))) (tOp rIx1 (tVar 4) (tC (.int 1)))) (tOp (rI IntMulOk fun i j => .int (i * j)) (tOp rIx1 (tVar 4) (tC (.int 0))) (tOp rIx1 (tVar 3) (tC (.int 1))))) (gName 5))
    (tSeq (tIfS (tOr (tTest (tOp rNe (tOp (rOwn2 C (spEq C) E0) (tVar 0) (tVar 1)) (tVar 5))) (tTest (tOp rNe (tOp (rOwn2 C (spEq C) E0) (tVar 1) (tVar 0)) (tVar 5)))) (tRet (tC (.bl false))) tNext)
    (tSeq (tAsg (tOp rEq (tOp rIx1 (tVar 3) (tC (.int 0))) (tOp (rI IntMulOk fun i j => .int (i * j)) (tVar 2) (tOp rIx1 (tVar 3) (tC (.int 1))))) (gName 6))
    (tSeq (tIfS (tOr (tTest (tOp rNe (tOp (rOwnI C (spEq C) E0) (tVar 0) (tVar 2)) (tVar 6))) (tTest (tOp rNe (tOp (rOwnR C (spEq C) E0) (tVar 2) (tVar 0)) (tVar 6)))) (tRet (tC (.bl false))) tNext)
    (tSeq (tIfS (tNot (tTest (tOp (rOwn2 C (spEq C) E0) (tVar 0) (tMake C (spInit C Z) [] E0 (tCons (tOp rIx1 (tVar 3) (tC (.int 0))) (tCons (tOp rIx1 (tVar 3) (tC (.int 1))) tNil)))))) (tRet (tC (.bl false))) tNext)
    (tRet (tAndV (tOp rEq (tCB (rOwnBool C (spBool C) E0) (tCons (tVar 0) tNil)) (tOp rNe (tOp rIx1 (tVar 3) (tC (.int 0))) (tC (.int 0)))) (tOp rEq (tCB (rOwnBool C (spBool C) E0) (tCons (tVar 1) tNil)) (tOp rNe (tOp rIx1 (tVar 4) (tC (.int 0))) (tC (.int 0)))))))))))
theorem pure_compared {K : PySem.W.Frag} {C Z : Addr} (vs : List V) (H : Hp) (Q : VK) (E : XK) (h : spCompared C vs H Q E) : t_compared K C Z E { nx := fun _ H' => Q .non H', rt := Q } (start ["first", "second", "number", "one", "two", "same", "whole"] vs) H := by
  obtain ⟨f, s, o1, o2, x1, y1, x2, y2, u, rfl, ⟨⟨t, b, hr, hn⟩, ⟨t', b', hr', hn'⟩, h3, h4, n1, n2, b1, c1, b2, c2⟩, bu, k⟩ := h
  have B1 : Bd 2000 x1 := b1.mono (by decide)
  have C1 : Bd 2000 y1 := c1.mono (by decide)
  have B2 : Bd 2000 x2 := b2.mono (by decide)
  have C2 : Bd 2000 y2 := c2.mono (by decide)
  have Bu : Bd 2000 u := bu.mono (by decide)
  have q1 := hn.eq
  have q2 := hn'.eq
  show t_compared K C Z E _ [some (.ref f), some (.ref s), some (.int u), some (.ref o1), some (.ref o2), none, none] H
  unfold t_compared
  obtain ⟨dx, hp⟩ := id hr
  obtain ⟨dy, hq⟩ := id hr'
  have same : (t * b' = t' * b) ↔ (x1 * y2 = x2 * y1) := by
    constructor
    · intro e
      refine Int.eq_of_mul_eq_mul_right (Int.mul_ne_zero hn.low.nz hn'.low.nz) ?_
      grind
    · intro e
      refine Int.eq_of_mul_eq_mul_right (Int.mul_ne_zero n1 n2) ?_
      grind
  have whole : (t * 1 = u * b) ↔ (x1 = u * y1) := by
    constructor
    · intro e
      refine Int.eq_of_mul_eq_mul_right hn.low.nz ?_
      grind
    · intro e
      refine Int.eq_of_mul_eq_mul_right n1 ?_
      grind
  have nz1 : (t = 0) ↔ (x1 = 0) := by
    constructor
    · intro e
      rw [e, Int.zero_mul] at q1
      rcases Int.mul_eq_zero.mp q1.symm with h | h
      · exact h
      · exact absurd h hn.low.nz
    · intro e
      rw [e, Int.zero_mul] at q1
      rcases Int.mul_eq_zero.mp q1 with h | h
      · exact h
      · exact absurd h n1
  have nz2 : (t' = 0) ↔ (x2 = 0) := by
    constructor
    · intro e
      rw [e, Int.zero_mul] at q2
      rcases Int.mul_eq_zero.mp q2.symm with h | h
      · exact h
      · exact absurd h hn'.low.nz
    · intro e
      rw [e, Int.zero_mul] at q2
      rcases Int.mul_eq_zero.mp q2 with h | h
      · exact h
      · exact absurd h n2
  simp only [x_seq, x_if, x_test, x_B, x_op, x_un, x_varS, x_var0, x_c, x_I0, x_I, x_U, x_bl, x_ret, x_next, x_asg, x_name, x_set0, x_setS, x_drop, x_cb, x_cons, x_nil, x_int1, x_abs1, x_max2, x_gcd, x_gsub, x_sl, x_part, x_nopart, x_int, x_call, x_lst, x_tup, x_not, x_and, x_or, x_andV, x_orV, x_notV, x_ifE, x_eqI, x_neI, x_eqB, x_neB, x_tbm, x_never, x_make, x_meth, x_isII, x_isIC, x_bool1, decide_eq_true_eq, Bool.false_eq_true, if_false, if_true, List.append_nil, List.nil_append, List.cons_append, x_ixT h3 at0, x_ixT h3 at1, x_ixT h4 at0, x_ixT h4 at1, x_own2 hp hq, x_own2 hq hp]
  refine ⟨B1.ok2 C2, B2.ok2 C1, eq_of hr (.rat hr') hn.low hn'.low same ?_⟩
  simp only [x_seq, x_if, x_test, x_B, x_op, x_un, x_varS, x_var0, x_c, x_I0, x_I, x_U, x_bl, x_ret, x_next, x_asg, x_name, x_set0, x_setS, x_drop, x_cb, x_cons, x_nil, x_int1, x_abs1, x_max2, x_gcd, x_gsub, x_sl, x_part, x_nopart, x_int, x_call, x_lst, x_tup, x_not, x_and, x_or, x_andV, x_orV, x_notV, x_ifE, x_eqI, x_neI, x_eqB, x_neB, x_tbm, x_never, x_make, x_meth, x_isII, x_isIC, x_bool1, decide_eq_true_eq, Bool.false_eq_true, if_false, if_true, List.append_nil, List.nil_append, List.cons_append, x_own2 hq hp]
  refine ite2 (fun h => by simp at h) fun _ => ?_
  refine eq_of hr' (.rat hr) hn'.low hn.low (P := x1 * y2 = x2 * y1) ⟨fun e => same.mp e.symm, fun e => (same.mpr e).symm⟩ ?_
  simp only [x_seq, x_if, x_test, x_B, x_op, x_un, x_varS, x_var0, x_c, x_I0, x_I, x_U, x_bl, x_ret, x_next, x_asg, x_name, x_set0, x_setS, x_drop, x_cb, x_cons, x_nil, x_int1, x_abs1, x_max2, x_gcd, x_gsub, x_sl, x_part, x_nopart, x_int, x_call, x_lst, x_tup, x_not, x_and, x_or, x_andV, x_orV, x_notV, x_ifE, x_eqI, x_neI, x_eqB, x_neB, x_tbm, x_never, x_make, x_meth, x_isII, x_isIC, x_bool1, decide_eq_true_eq, Bool.false_eq_true, if_false, if_true, List.append_nil, List.nil_append, List.cons_append, x_ixT h3 at0, x_ixT h3 at1, x_ownI hp]
  refine ite2 (fun h => by simp at h) fun _ => ?_
  refine ⟨Bu.ok2 C1, eq_of hr (.int u) hn.low .int whole ?_⟩
  simp only [x_seq, x_if, x_test, x_B, x_op, x_un, x_varS, x_var0, x_c, x_I0, x_I, x_U, x_bl, x_ret, x_next, x_asg, x_name, x_set0, x_setS, x_drop, x_cb, x_cons, x_nil, x_int1, x_abs1, x_max2, x_gcd, x_gsub, x_sl, x_part, x_nopart, x_int, x_call, x_lst, x_tup, x_not, x_and, x_or, x_andV, x_orV, x_notV, x_ifE, x_eqI, x_neI, x_eqB, x_neB, x_tbm, x_never, x_make, x_meth, x_isII, x_isIC, x_bool1, decide_eq_true_eq, Bool.false_eq_true, if_false, if_true, List.append_nil, List.nil_append, List.cons_append, x_ownR hp]
  refine ite2 (fun h => by simp at h) fun _ => ?_
  refine eq_of hr (.int u) hn.low .int whole ?_
  simp only [x_seq, x_if, x_test, x_B, x_op, x_un, x_varS, x_var0, x_c, x_I0, x_I, x_U, x_bl, x_ret, x_next, x_asg, x_name, x_set0, x_setS, x_drop, x_cb, x_cons, x_nil, x_int1, x_abs1, x_max2, x_gcd, x_gsub, x_sl, x_part, x_nopart, x_int, x_call, x_lst, x_tup, x_not, x_and, x_or, x_andV, x_orV, x_notV, x_ifE, x_eqI, x_neI, x_eqB, x_neB, x_tbm, x_never, x_make, x_meth, x_isII, x_isIC, x_bool1, decide_eq_true_eq, Bool.false_eq_true, if_false, if_true, List.append_nil, List.nil_append, List.cons_append, x_ixT h3 at0, x_ixT h3 at1]
  refine ite2 (fun h => by simp at h) fun _ => ?_
  refine fun p dp np nd ne => make_at (b1.mono (by decide)) (c1.mono (by decide)) n1 np nd ne fun H1 n d hrr hnn s1 => ?_
  obtain ⟨dz, hz⟩ := id hrr
  simp only [x_seq, x_if, x_test, x_B, x_op, x_un, x_varS, x_var0, x_c, x_I0, x_I, x_U, x_bl, x_ret, x_next, x_asg, x_name, x_set0, x_setS, x_drop, x_cb, x_cons, x_nil, x_int1, x_abs1, x_max2, x_gcd, x_gsub, x_sl, x_part, x_nopart, x_int, x_call, x_lst, x_tup, x_not, x_and, x_or, x_andV, x_orV, x_notV, x_ifE, x_eqI, x_neI, x_eqB, x_neB, x_tbm, x_never, x_make, x_meth, x_isII, x_isIC, x_bool1, decide_eq_true_eq, Bool.false_eq_true, if_false, if_true, List.append_nil, List.nil_append, List.cons_append, x_own2 (s1 _ _ hp) hz]
  have q3 := hnn.eq
  have alike : t * d = n * b ↔ True := by
    refine ⟨fun _ => trivial, fun _ => Int.eq_of_mul_eq_mul_right n1 ?_⟩
    grind
  refine eq_of (hr.same s1) (.rat hrr) hn.low hnn.low alike ?_
  have h3' := h3.same s1
  have h4' := h4.same s1
  simp only [x_seq, x_if, x_test, x_B, x_op, x_un, x_varS, x_var0, x_c, x_I0, x_I, x_U, x_bl, x_ret, x_next, x_asg, x_name, x_set0, x_setS, x_drop, x_cb, x_cons, x_nil, x_int1, x_abs1, x_max2, x_gcd, x_gsub, x_sl, x_part, x_nopart, x_int, x_call, x_lst, x_tup, x_not, x_and, x_or, x_andV, x_orV, x_notV, x_ifE, x_eqI, x_neI, x_eqB, x_neB, x_tbm, x_never, x_make, x_meth, x_isII, x_isIC, x_bool1, decide_eq_true_eq, Bool.false_eq_true, if_false, if_true, List.append_nil, List.nil_append, List.cons_append, x_ownBool (s1 _ _ hp), x_ownBool (s1 _ _ hq), x_ixT h3' at0, x_ixT h4' at0, decide_true, Bool.not_true]
  refine ⟨f, t, b, rfl, hr.same s1, _, rfl, ?_⟩
  simp only [x_seq, x_if, x_test, x_B, x_op, x_un, x_varS, x_var0, x_c, x_I0, x_I, x_U, x_bl, x_ret, x_next, x_asg, x_name, x_set0, x_setS, x_drop, x_cb, x_cons, x_nil, x_int1, x_abs1, x_max2, x_gcd, x_gsub, x_sl, x_part, x_nopart, x_int, x_call, x_lst, x_tup, x_not, x_and, x_or, x_andV, x_orV, x_notV, x_ifE, x_eqI, x_neI, x_eqB, x_neB, x_tbm, x_never, x_make, x_meth, x_isII, x_isIC, x_bool1, decide_eq_true_eq, Bool.false_eq_true, if_false, if_true, List.append_nil, List.nil_append, List.cons_append, x_ixT h3' at0, x_ixT h4' at0, x_ownBool (s1 _ _ hq)]
  have bz : ∀ (x y : Int), (x = 0 ↔ y = 0) → (x != 0) = !decide (y = 0) := by
    intro x y e
    by_cases hx : x = 0
    · simp [hx, e.mp hx]
    · have hy : ¬ y = 0 := fun h => hx (e.mpr h)
      simp [hx, hy]
  rw [if_pos (bz t x1 nz1)]
  refine ⟨s, t', b', rfl, hr'.same s1, _, rfl, ?_⟩
  simp only [x_seq, x_if, x_test, x_B, x_op, x_un, x_varS, x_var0, x_c, x_I0, x_I, x_U, x_bl, x_ret, x_next, x_asg, x_name, x_set0, x_setS, x_drop, x_cb, x_cons, x_nil, x_int1, x_abs1, x_max2, x_gcd, x_gsub, x_sl, x_part, x_nopart, x_int, x_call, x_lst, x_tup, x_not, x_and, x_or, x_andV, x_orV, x_notV, x_ifE, x_eqI, x_neI, x_eqB, x_neB, x_tbm, x_never, x_make, x_meth, x_isII, x_isIC, x_bool1, decide_eq_true_eq, Bool.false_eq_true, if_false, if_true, List.append_nil, List.nil_append, List.cons_append, x_ixT h4' at0]
  rw [decide_eq_true (bz t' x2 nz2)]
  exact k _ s1
end SpX

set_option Elab.async false
set_option linter.all false
set_option maxRecDepth 100000
set_option maxHeartbeats 4000000
/-! A constructor and a method called inside a try; the caught exception's classes. -/
namespace SpX
open PySem PySem.Spec PyProof.Rows L2
section
variable {X : Cx} {CX : CXT} {k : Nat} {f C : Addr} {fd : FuncData} {ps : List Str} {sp : Sp} {E : L2.St → XK} {x m : Str} {p pos apos : Pos} {e o : Expr} {es : List Expr} {ta : TE} {t : TA}
/-- a rule of a call that passes nothing on, at every σ, serves at one σ -/
def tMakeS (C : Addr) (sp : Sp) (E : L2.St → XK) (t : TA) : TE := fun σ H Q => tMake C sp [] (E σ) t σ H Q
def tMethSt (C : Addr) (m : Str) (sp : Sp) (E : L2.St → XK) (ta : TE) (t : TA) : TE := fun σ H Q => tMeth C m sp [] (E σ) ta t σ H Q
theorem make_at_slots {pins : List (Addr × Obj)} {σ : L2.St} {H : Hp} {s : Shared} {Q : VK} {us : List Value} {vs : List V} (M : Mk X.K C f) (F : FnOk X.prog X.w X.K X.mg X.base CX k f fd ps sp) (room : Room (k + 1) X.A) (hb : Binds X.K fd ps []) (hx : PassesAt CX X σ (E σ))
    (I : Inv X pins σ H s) (r : Vals vs us) (h : ∀ x dx, H x = none → H dx = none → dx ≠ x → sp (.ref x :: (vs ++ [])) (upd (upd H dx (.own x)) x (.ins C dx [])) (fun v H2 => v = .non ∧ Q (.ref x) H2) (E σ)) :
    wpAny (model X.prog X.w) X.A (call (.ref C) us) (EP X pins σ Q) X.xe s := by
  have wish := h (s.heap.objs.size + 1) s.heap.objs.size (I.hok.fresh (Nat.le_succ _)) (I.hok.fresh (Nat.le_refl _)) (Nat.ne_of_lt (Nat.lt_succ_self _))
  have laid := Inv.made (C := C) I
  have both : Vals (V.ref (s.heap.objs.size + 1) :: (vs ++ [])) (Value.ref (s.heap.objs.size + 1) :: (us ++ [])) := .cons rfl (r.append .nil)
  have many : (Value.ref (s.heap.objs.size + 1) :: us ++ []).length = ps.length := by
    have len := both.length
    rw [F.len _ _ _ _ wish] at len
    exact len.symm
  have bound := hb _ (Value.ref (s.heap.objs.size + 1) :: us) laid.kIn many
  rw [List.cons_append] at bound
  have run := F.run _ X.stack _ _ ⟨Value.ref (s.heap.objs.size + 1) :: us, []⟩ (Value.ref (s.heap.objs.size + 1) :: (us ++ [])) _ _ (E σ) (room.make C us []) (laid.env0.make C us []) bound both wish
  refine wpAny_call (make_map (f := f) I.kIn M.makes M.init (beq_iff_eq.mp M.fn) (codeAny_mono run fun res s' got => ?_))
  rcases res with er | fl
  · exact hx pins _ _ er s' laid got
  · cases fl with
    | ret u =>
      obtain ⟨v, H', inv, rv, none_, rest⟩ := laid.after got
      subst none_
      exact ⟨rv, ⟨V.ref (s.heap.objs.size + 1), H', inv, rfl, rest⟩⟩
    | next => exact got.elim
    | brk => exact got.elim
    | cont => exact got.elim
theorem pe_makeS (M : Mk X.K C f) (F : FnOk X.prog X.w X.K X.mg X.base CX k f fd ps sp) (room : Room (k + 1) X.A) (hg : Gl X x) (hm : X.mg x = some (.ref C)) (hb : Binds X.K fd ps []) (hx : ∀ σ, PassesAt CX X σ (E σ))
    (ha : PA X (e :: es) t) (hdb : (x == ("__debug__" : Str)) = false := by decide) (he : starEach (e :: es) X.env = (false, eval e X.env) :: starEach es X.env := by rfl) (hpl : (backTo pos (starEach es X.env)).any (·.1) = false := by rfl) :
    PE X (.Call (.Name x p) (e :: es) [] pos) (tMakeS C sp E t) := by
  refine ⟨fun pins s σ H Q inv want => wpAny_Call_Name_kw (ld_glob inv hg hm ?_ hdb)⟩
  refine PySem.W.callWith_K (h₀ := X.base) inv.ok.mod.kin M.kp (thn (ha.run pos pins s σ H _ inv want) fun us s1 got => ?_) he hpl
  obtain ⟨vs, H1, inv1, r, q⟩ := got
  exact ⟨inv1.kIn, make_at_slots M F room hb (hx σ) inv1 r q⟩
theorem pe_methSt {pl : Sem Bool} (he : PE X o ta) (c : Cls X.K C) (hm : Meth X.K C m f) (F : FnOk X.prog X.w X.K X.mg X.base CX k f fd ps sp) (room : Room k X.A) (hb : Binds X.K fd ps []) (hx : ∀ σ, PassesAt CX X σ (E σ)) (ha : PA X (e :: es) t)
    (hst : starEach (e :: es) X.env = (false, eval e X.env) :: starEach es X.env := by rfl) (hpl : (backTo pos (starEach es X.env)).any (·.1) = false := by rfl)
    (ht : eval (.Call (.Attribute o m apos) (e :: es) [] pos) X.env = (do let ov ← eval o X.env; standAt apos.atName; let (f, first) ← holding [ov] (getMethod ov m pl); callWith pos f first (backTo pos (starEach (e :: es) X.env)) (backToKw pos (keywordEach [] X.env))) := by rfl) :
    PE X (.Call (.Attribute o m apos) (e :: es) [] pos) (tMethSt C m sp E ta t) := by
  refine ⟨fun pins s σ H Q inv want => PySem.W.methodCall_KW (pl := pl) (thn (he.run pins s σ H _ inv want) fun u s1 got => ?_) ht⟩
  obtain ⟨y, H1, inv1, ry, a, dx, fs, ey, ea, l, q⟩ := got
  subst ey
  obtain rfl : u = Value.ref a := ry
  refine getmeth_ok inv1 ea c hm l (PySem.W.callWith_K (first := [.ref a]) (h₀ := X.base) inv1.ok.mod.kin hm.kp (thn (ha.run pos pins s1 σ H1 _ inv1 q) fun us s2 got2 => ?_) hst hpl)
  obtain ⟨vs, H2, inv2, r, q2⟩ := got2
  rw [List.append_nil] at q2
  exact ⟨inv2.kIn, run_fnS (us := .ref a :: us) (vs := .ref a :: vs) F room hb (hx σ) inv2 (.cons rfl r) q2⟩
/-- isinstance of the caught exception, its class being the one at D -/
def rCaught (K : PySem.W.Frag) (D a : Addr) (cls : Value) (d : Option Addr) : List V → Hp → VK → Prop := fun xs H Q => cls = .ref D ∧ d = none ∧ rIsE K D a xs H Q
theorem call_caught {a D : Addr} {oe : Obj} {cls : Value} {d : Option Addr} {pn : List (Addr × Obj)} (C : ExcC X.K D) (hz : Zc cls d oe) (hf : ∃ vs, oe.data = .fields vs) : CallR (X.suite a ((a, oe) :: pn)) (.builtin "isinstance") (rCaught X.K D a cls d) := by
  intro pins s σ H xs us Q I r h
  obtain ⟨rfl, rfl, h⟩ := h
  exact call_isE C hz hf pins s σ H xs us Q I r h
end
section
variable {σ : L2.St} {H : Hp} {Q : VK} {C : Addr} {sp : Sp} {E : L2.St → XK} {ta : TE} {t : TA} {m : Str}
theorem x_makeS : tMakeS C sp E t σ H Q = tMake C sp [] (E σ) t σ H Q := rfl
theorem x_methS : tMethSt C m sp E ta t σ H Q = tMeth C m sp [] (E σ) ta t σ H Q := rfl
end
/-! ### the refused -/
def spRefused (C : Addr) : Sp := fun vs H Q _ => ∃ (f : Addr) (t b above kind : Int), vs = [.ref f, .int above, .int kind] ∧ RatAt C H f t b ∧ Low t b ∧ Bd 256 t ∧ Bd 256 b ∧ Bd 256 above ∧ 0 ≤ kind ∧ kind < 4 ∧ ∀ H', Same H H' → Q (.bl true) H'
/-- the body of the try, its way out W -/
def t_tryb (C Z : Addr) (W : WX) : TS :=
  tSeq (tIfS (tTest (tOp rEq (tVar 2) (tC (.int 0)))) (tDrop (tMakeS C (spInit C Z) (WE W) (tCons (tVar 1) (tCons (tC (.int 0)) tNil)))) tNext)
  (tSeq (tIfS (tTest (tOp rEq (tVar 2) (tC (.int 1)))) (tDrop (tMethSt C "over" (spOver C Z) (WE W) (tVar 0) (tCons (tC (.int 0)) tNil))) tNext)
  (tSeq (tIfS (tTest (tOp rEq (tVar 2) (tC (.int 2)))) (tDrop (tMethSt C "over" (spOver C Z) (WE W) (tVar 0) (tCons (tMake C (spInit C Z) [] E0 (tCons (tC (.int 0)) (tCons (tC (.int 7)) tNil))) tNil))) tNext)
  (tIfS (tTest (tOp rEq (tVar 2) (tC (.int 3)))) (tDrop (tMethSt C "over" (spOver C Z) (WE W) (tVar 0) (tCons (tOp (rOwn2 C (spBin C subN) E0) (tVar 0) (tVar 0)) tNil))) tNext)))
/-- the suite of the clause -/
def t_caught (K : PySem.W.Frag) (Z BN TL : Addr) (a : Addr) (cls : Value) (d : Option Addr) : TS :=
  tSeq (tAsg (tOrV (tCB (rCaught K Z a cls d) (tCons (tVar 4) (tCons (tC (.ref BN)) tNil))) (tCB (rCaught K Z a cls d) (tCons (tVar 4) (tCons (tC (.ref TL)) tNil)))) (gName 5))
  (tAsg (tLst (tCons (tCB (rCaught K Z a cls d) (tCons (tVar 4) (tCons (tC (.ref Z)) tNil))) (tCons (tCB (rCaught K Z a cls d) (tCons (tVar 4) (tCons (tC (.ty "ValueError")) tNil))) (tCons (tVar 5) tNil)))) (gName 3))
def t_try (K : PySem.W.Frag) (C Z BN TL SE : Addr) : TS := fun D σ H => t_tryb C Z (wAs K (.ref SE) 4 (t_caught K Z BN TL) (fun _ _ _ _ => False) D) D σ H
def t_refused (K : PySem.W.Frag) (C Z BN TL SE : Addr) : TS :=
  tSeq (tAsg (tLst tNil) (gName 3)) (tSeq (t_try K C Z BN TL SE) (tRet (tOp (rEqD K) (tVar 3) (tLst (tCons (tC (.bl true)) (tCons (tC (.bl true)) (tCons (tC (.bl false)) tNil)))))))
/-- what the text says of the error's classes -/
structure ExcTxt (K : PySem.W.Frag) (Z BN TL SE : Addr) : Prop where
  cz : ExcC K Z
  is : PySem.W.exmOne K (.ref Z) (.ref SE) = some true
  ve : PySem.W.kitOne K (.ref Z) (.type "ValueError") = some true
  nb : PySem.W.kitOne K (.ref Z) (.ref BN) = some false
  nt : PySem.W.kitOne K (.ref Z) (.ref TL) = some false
theorem make_no {C Z p dx : Addr} {H : Hp} {Q : VK} {E : XK} {x : Int} (bx : Bd 8000 x) (k : ∀ H', Same H H' → E (.ref Z) none H') (np : H p = none) (nd : H dx = none) :
    spInit C Z [.ref p, .int x, .int 0] (upd (upd H dx (.own p)) p (.ins C dx [])) Q E := by
  refine ⟨p, dx, x, 0, rfl, upd_same, bx, by unfold Bd; exact Nat.pow_pos (by decide), fun _ => k _ fun c o e => ?_, fun h => absurd rfl h⟩
  rw [upd_ne (ne_of_none e np), upd_ne (ne_of_none e nd)]
  exact e
theorem caught_of {K : PySem.W.Frag} {Z a c : Addr} {b : Bool} {H : Hp} {Q : VK} (h : PySem.W.kitOne K (.ref Z) (.ref c) = some b) (k : Q (.bl b) H) : rCaught K Z a (.ref Z) none [.ref a, .ref c] H Q :=
  ⟨rfl, rfl, .ref c, .ref c, b, rfl, fun u r => r, h, k⟩
theorem caught_ty {K : PySem.W.Frag} {Z a : Addr} {c : String} {b : Bool} {H : Hp} {Q : VK} (h : PySem.W.kitOne K (.ref Z) (.type c) = some b) (k : Q (.bl b) H) : rCaught K Z a (.ref Z) none [.ref a, .ty c] H Q :=
  ⟨rfl, rfl, .ty c, .type c, b, rfl, fun u r => r, h, k⟩
theorem pure_refused {K : PySem.W.Frag} {C Z BN TL SE : Addr} (T : ExcTxt K Z BN TL SE) (vs : List V) (H : Hp) (Q : VK) (E : XK) (h : spRefused C vs H Q E) : t_refused K C Z BN TL SE { nx := fun _ H' => Q .non H', rt := Q } (start ["first", "above", "kind", "flags", "e", "others"] vs) H := by
  obtain ⟨f, t, b, above, kind, rfl, hr, low, bt, bb, ba, k0, k3, k⟩ := h
  show t_refused K C Z BN TL SE _ [some (.ref f), some (.int above), some (.int kind), none, none, none] H
  unfold t_refused
  rw [x_seq]
  simp only [x_asg, x_lst, x_nil, x_name, x_setS, x_set0]
  refine ⟨by decide, fun fl hfl => ?_⟩
  rw [x_seq]
  show t_tryb C Z _ _ _ _
  have s0 : Same H (upd H fl (.lst [])) := Same.new hfl
  have e0 : (upd H fl (.lst [])) fl = some (.lst []) := upd_same
  generalize upd H fl (.lst []) = H0 at s0 e0 ⊢
  -- whatever raises, the clause takes it
  have caught : ∀ H1, Same H0 H1 → wAs K (.ref SE) 4 (t_caught K Z BN TL) (fun _ _ _ _ => False)
      { nx := fun σ H' => tRet (tOp (rEqD K) (tVar 3) (tLst (tCons (tC (.bl true)) (tCons (tC (.bl true)) (tCons (tC (.bl false)) tNil))))) { nx := fun _ H' => Q .non H', rt := Q } σ H', rt := Q } (.ref Z) none [some (.ref f), some (.int above), some (.int kind), some (.ref fl), none, none] H1 := by
    intro H1 s1
    refine ⟨true, T.is, fun _ a ha => ?_, fun h => Bool.noConfusion h⟩
    unfold t_caught
    simp only [x_seq, x_if, x_test, x_B, x_op, x_un, x_varS, x_var0, x_c, x_I0, x_I, x_U, x_bl, x_ret, x_next, x_asg, x_name, x_set0, x_setS, x_drop, x_cb, x_cons, x_nil, x_int1, x_abs1, x_max2, x_gcd, x_gsub, x_sl, x_part, x_nopart, x_int, x_call, x_lst, x_tup, x_not, x_and, x_or, x_andV, x_orV, x_notV, x_ifE, x_eqI, x_neI, x_eqB, x_neB, x_tbm, x_never, x_make, x_meth, x_isII, x_isIC, x_bool1, decide_eq_true_eq, Bool.false_eq_true, if_false, if_true, List.append_nil, List.nil_append, List.cons_append]
    refine caught_of T.nb ?_
    simp only [x_seq, x_if, x_test, x_B, x_op, x_un, x_varS, x_var0, x_c, x_I0, x_I, x_U, x_bl, x_ret, x_next, x_asg, x_name, x_set0, x_setS, x_drop, x_cb, x_cons, x_nil, x_int1, x_abs1, x_max2, x_gcd, x_gsub, x_sl, x_part, x_nopart, x_int, x_call, x_lst, x_tup, x_not, x_and, x_or, x_andV, x_orV, x_notV, x_ifE, x_eqI, x_neI, x_eqB, x_neB, x_tbm, x_never, x_make, x_meth, x_isII, x_isIC, x_bool1, decide_eq_true_eq, Bool.false_eq_true, if_false, if_true, List.append_nil, List.nil_append, List.cons_append]
    refine caught_of T.nt ?_
    refine caught_of kit_self ?_
    try simp only [x_seq, x_if, x_test, x_B, x_op, x_un, x_varS, x_var0, x_c, x_I0, x_I, x_U, x_bl, x_ret, x_next, x_asg, x_name, x_set0, x_setS, x_drop, x_cb, x_cons, x_nil, x_int1, x_abs1, x_max2, x_gcd, x_gsub, x_sl, x_part, x_nopart, x_int, x_call, x_lst, x_tup, x_not, x_and, x_or, x_andV, x_orV, x_notV, x_ifE, x_eqI, x_neI, x_eqB, x_neB, x_tbm, x_never, x_make, x_meth, x_isII, x_isIC, x_bool1, decide_eq_true_eq, Bool.false_eq_true, if_false, if_true, List.append_nil, List.nil_append, List.cons_append]
    refine caught_ty T.ve ?_
    try simp only [x_seq, x_if, x_test, x_B, x_op, x_un, x_varS, x_var0, x_c, x_I0, x_I, x_U, x_bl, x_ret, x_next, x_asg, x_name, x_set0, x_setS, x_drop, x_cb, x_cons, x_nil, x_int1, x_abs1, x_max2, x_gcd, x_gsub, x_sl, x_part, x_nopart, x_int, x_call, x_lst, x_tup, x_not, x_and, x_or, x_andV, x_orV, x_notV, x_ifE, x_eqI, x_neI, x_eqB, x_neB, x_tbm, x_never, x_make, x_meth, x_isII, x_isIC, x_bool1, decide_eq_true_eq, Bool.false_eq_true, if_false, if_true, List.append_nil, List.nil_append, List.cons_append]
    refine ⟨by show 3 ≤ sizeLine; decide, fun p hp => ⟨by show 3 ≤ sizeLine; decide, fun q hq => ?_⟩⟩
    have np : p ≠ q := fun e => by
      subst e
      rw [upd_same] at hq
      cases hq
    refine ⟨.list [.bool true, .bool true, .bool false], .list [.bool true, .bool true, .bool false], ?_, ?_, rfl, rfl, ?_⟩
    · exact .lst (SqL.at (by rw [upd_ne np, upd_same])) (.cons (.bl _) (.cons (.bl _) (.cons (.bl _) .nil)))
    · exact .lst (SqL.at upd_same) (.cons (.bl _) (.cons (.bl _) (.cons (.bl _) .nil)))
    · exact k _ (Same.new' (Same.new' (s0.trans s1) hp) hq)
  suffices body : ∀ W : WX, (∀ H1, Same H0 H1 → W (.ref Z) none [some (.ref f), some (.int above), some (.int kind), some (.ref fl), none, none] H1) →
      ∀ D : Ends, t_tryb C Z W D [some (.ref f), some (.int above), some (.int kind), some (.ref fl), none, none] H0 from body _ caught _
  intro W hW D
  have hr0 := hr.same s0
  obtain ⟨dx, hf⟩ := id hr0
  have B1 : Bd 2000 t := bt.mono (by decide)
  have B2 : Bd 2000 b := bb.mono (by decide)
  have over0 : ∀ (H1 : Hp) (v : V) (n d : Int) (Q : VK), Same H0 H1 → NumAt C H1 v n d → Low n d → Bd 2000 d → n = 0 → spOver C Z [.ref f, v] H1 Q (WE W [some (.ref f), some (.int above), some (.int kind), some (.ref fl), none, none]) := by
    intro H1 v n d Q s1 hv l bd hn
    subst hn
    exact ⟨f, v, t, b, 0, d, rfl, hr0.same s1, hv, low, l, B1, B2, .lit _ (by decide) (by decide) (by decide), bd, fun _ H' s' => hW H' (s1.trans s'), fun h => absurd rfl h⟩
  unfold t_tryb
  simp only [x_seq, x_if, x_test, x_B, x_op, x_un, x_varS, x_var0, x_c, x_I0, x_I, x_U, x_bl, x_ret, x_next, x_asg, x_name, x_set0, x_setS, x_drop, x_cb, x_cons, x_nil, x_int1, x_abs1, x_max2, x_gcd, x_gsub, x_sl, x_part, x_nopart, x_int, x_call, x_lst, x_tup, x_not, x_and, x_or, x_andV, x_orV, x_notV, x_ifE, x_eqI, x_neI, x_eqB, x_neB, x_tbm, x_never, x_make, x_meth, x_isII, x_isIC, x_bool1, decide_eq_true_eq, Bool.false_eq_true, if_false, if_true, List.append_nil, List.nil_append, List.cons_append, x_makeS, x_methS]
  refine ite2 (fun _ => ?_) fun g0 => ?_
  · exact fun p d n1 n2 _ => make_no (ba.mono (by decide)) (fun H' s => hW H' s) n1 n2
  refine ite2 (fun _ => ?_) fun g1 => ?_
  · exact ⟨f, dx, _, rfl, hf, look_over, over0 H0 _ 0 1 _ (fun _ _ e => e) (.int 0) .int (.one (by decide)) rfl⟩
  refine ite2 (fun _ => ?_) fun g2 => ?_
  · refine ⟨f, dx, _, rfl, hf, look_over, fun p d n1 n2 n3 => ?_⟩
    refine make_at (.lit _ (by decide) (by decide) (by decide)) (.lit _ (by decide) (by decide) (by decide)) (by decide) n1 n2 n3 fun H1 n d hrr hn s1 => ?_
    have e := hn.eq
    have l := hn.le (by decide)
    exact over0 H1 _ n d _ s1 (.rat hrr) hn.low (Bd.of (.lit 7 (by decide) (by decide) (by decide)) l.2) (by omega)
  refine ite2 (fun _ => ?_) fun g3 => ?_
  · rw [x_own2 hf hf]
    refine ⟨f, dx, _, rfl, hf, look_over, f, _, t, b, t, b, rfl, hr0, .rat hr0, low, low, B1, B2, B1, B2, fun r H1 n d hrr hn s1 => ?_⟩
    have e := hn.eq
    have l := hn.le (Int.mul_ne_zero low.nz low.nz)
    refine over0 H1 _ n d _ s1 (.rat hrr) hn.low (((bb.mul bb).of l.2).mono (by decide)) ?_
    unfold subN at e
    rw [Int.sub_self, Int.zero_mul] at e
    rcases Int.mul_eq_zero.mp e with h | h
    · exact h
    · exact absurd h (Int.mul_ne_zero low.nz low.nz)
  · omega
end SpX

set_option Elab.async false
set_option linter.all false
set_option maxRecDepth 100000
set_option maxHeartbeats 4000000
namespace SpX
open PySem PySem.Spec L2
theorem right_of {C p o : Addr} {H : Hp} {t b x y : Int} {Q : VK} {E : XK} (hr : RatAt C H p t b) (hn : Norm t b x y) (ho : TupAt H o x y) (hy : y ≠ 0) (bx : Bd 2000 x) (by' : Bd 2000 y) (k : Q (.bl true) H) : spRight C [.ref p, .ref o] H Q E :=
  have l := hn.le hy
  ⟨p, o, t, b, x, y, rfl, hr, ho, hn, (bx.of l.1).mono (by decide), (by'.of l.2).mono (by decide), bx.mono (by decide), by'.mono (by decide), k⟩
/-- an expression that says True -/
def Says (H : Hp) (σ : L2.St) (te : TE) : Prop := ∀ (H1 : Hp) (Q : VK), Same H H1 → (∀ H2, Same H1 H2 → Q (.bl true) H2) → te σ H1 Q
theorem Says.right {C : Addr} {H : Hp} {σ : L2.St} {te td : TE} {x y : Int} (hr : RatE C H σ te x y) (hd : TupE H σ td x y) (hy : y ≠ 0) (bx : Bd 2000 x) (by' : Bd 2000 y) : Says H σ (tCall (spRight C) [] E0 (tCons te (tCons td tNil))) := by
  intro H1 Q s k
  rw [x_call, x_cons]
  refine hr H1 _ s fun r H2 n d hr2 hn s2 => ?_
  rw [x_cons]
  refine hd H2 _ (s.trans s2) fun o H3 s3 ho => ?_
  rw [x_nil]
  exact right_of (hr2.same s3) hn ho hy bx by' (k _ (s2.trans s3))
theorem Says.or2 {H H' : Hp} {σ : L2.St} {ta tb : TE} {t : TS} {D : Ends} (ha : Says H σ ta) (hb : Says H σ tb) (s : Same H H') (k : ∀ H2, Same H H2 → D.nx σ H2) : tIfS (tOr (tNot (tB ta)) (tNot (tB tb))) t tNext D σ H' := by
  rw [x_if, x_or, x_not, x_B]
  refine ha H' _ s fun H2 s2 => ⟨true, rfl, ?_⟩
  rw [if_neg (by decide), x_not, x_B]
  refine hb H2 _ (s.trans s2) fun H3 s3 => ⟨true, rfl, ?_⟩
  rw [if_neg (by decide), x_next]
  exact k H3 ((s.trans s2).trans s3)
/-- the law: a list of at most 63 ints is handed in, True comes out -/
def spLaw (K : PySem.W.Frag) : Sp := fun vs H Q _ => ∃ (a : Addr) (ns : List Int), vs = [.ref a] ∧ SqL K H a (ns.map V.int) ∧ ns.length ≤ 63 ∧ ∀ H', Q (.bl true) H'
def t_law (K : PySem.W.Frag) (C Z : Addr) (E : XK) : TS :=
    (tSeq (tAsg (tCall (spPool K) [] E0 (tCons (tVar 0) tNil)) (gName 1))
    (tSeq (tAsg (tCall spFraction [] E0 (tCons (tVar 1) tNil)) (gName 2))
    (tSeq (tAsg (tCall spSecond [] E0 (tCons (tVar 1) (tCons (tVar 2) tNil))) (gName 3))
    (tSeq (tAsg (tCall spBeside [] E0 (tCons (tVar 1) (tCons (tVar 2) tNil))) (gName 4))
    (tSeq (tAsg (tMake C (spInit C Z) [] E0 (tCons (tOp rIx1 (tVar 2) (tC (.int 0))) (tCons (tOp rIx1 (tVar 2) (tC (.int 1))) tNil))) (gName 5))
    (tSeq (tAsg (tMake C (spInit C Z) [] E0 (tCons (tOp rIx1 (tVar 3) (tC (.int 0))) (tCons (tOp rIx1 (tVar 3) (tC (.int 1))) tNil))) (gName 6))
    (tSeq (tIfS (tOr (tNot (tB (tCall (spRight C) [] E0 (tCons (tVar 5) (tCons (tVar 2) tNil))))) (tNot (tB (tCall (spRight C) [] E0 (tCons (tVar 6) (tCons (tVar 3) tNil)))))) (tRet (tC (.bl false))) tNext)
    (tSeq (tIfS (tNot (tB (tCall (spResults C) [] E0 (tCons (tVar 5) (tCons (tVar 6) (tCons (tVar 4) (tCons (tVar 2) (tCons (tVar 3) tNil)))))))) (tRet (tC (.bl false))) tNext)
    (tSeq (tIfS (tOr (tNot (tB (tCall (spCompared C) [] E0 (tCons (tVar 5) (tCons (tVar 6) (tCons (tVar 4) (tCons (tVar 2) (tCons (tVar 3) tNil)))))))) (tNot (tB (tCall (spSigns C) [] E0 (tCons (tVar 5) (tCons (tVar 6) (tCons (tVar 2) (tCons (tVar 3) tNil)))))))) (tRet (tC (.bl false))) tNext)
    (tSeq (tFor (iRng1 (tCons (tC (.int 4)) tNil)) (gName 7) ((tIfS (tNot (tB (tCall (spRefused C) [] E0 (tCons (tVar 5) (tCons (tOp rIx1 (tVar 2) (tC (.int 0))) (tCons (tVar 7) tNil)))))) (tRet (tC (.bl false))) tNext)))
    (tSeq (tIfS (tOr (tNot (tB (tCall (spRight C) [] E0 (tCons (tMake C (spInit C Z) [] E0 (tCons (tOp rIx1 (tVar 2) (tC (.int 0))) (tCons (tC (.int 1)) tNil))) (tCons (tTup (tCons (tOp rIx1 (tVar 2) (tC (.int 0))) (tCons (tC (.int 1)) tNil))) tNil))))) (tNot (tB (tCall (spRight C) [] E0 (tCons (tMake C (spInit C Z) [] E0 (tCons (tOp rIx1 (tVar 2) (tC (.int 0))) (tCons (tUn (rU fun i => .int (-i)) (tC (.int 1))) tNil))) (tCons (tTup (tCons (tUn (rU fun i => .int (-i)) (tOp rIx1 (tVar 2) (tC (.int 0)))) (tCons (tC (.int 1)) tNil))) tNil)))))) (tRet (tC (.bl false))) tNext)
    (tSeq (tIfS (tOr (tNot (tB (tCall (spRight C) [] E0 (tCons (tMeth C "over" (spOver C Z) [] E0 (tVar 5) (tCons (tC (.int 1)) tNil)) (tCons (tVar 2) tNil))))) (tNot (tB (tCall (spRight C) [] E0 (tCons (tMeth C "over" (spOver C Z) [] E0 (tVar 5) (tCons (tUn (rU fun i => .int (-i)) (tC (.int 1))) tNil)) (tCons (tTup (tCons (tUn (rU fun i => .int (-i)) (tOp rIx1 (tVar 2) (tC (.int 0)))) (tCons (tOp rIx1 (tVar 2) (tC (.int 1))) tNil))) tNil)))))) (tRet (tC (.bl false))) tNext)
    (tSeq (tIfS (tOr (tNot (tB (tCall (spRight C) [] E0 (tCons (tVar 5) (tCons (tVar 2) tNil))))) (tNot (tB (tCall (spRight C) [] E0 (tCons (tVar 6) (tCons (tVar 3) tNil)))))) (tRet (tC (.bl false))) tNext)
    (tRet (tCall (spRight C) [] E0 (tCons (tOp (rOwn2 C (spBin C addN) E0) (tVar 5) (tVar 6)) (tCons (tTup (tCons (tOp (rI0 fun i j => .int (i + j)) (tOp (rI IntMulOk fun i j => .int (i * j)) (tOp rIx1 (tVar 2) (tC (.int 0))) (tOp rIx1 (tVar 3) (tC (.int 1)))) (tOp (rI IntMulOk fun i j => .int (i * j)) (tOp rIx1 (tVar 3) (tC (.int 0))) (tOp rIx1 (tVar 2) (tC (.int 1))))) (tCons (tOp (rI IntMulOk fun i j => .int (i * j)) (tOp rIx1 (tVar 2) (tC (.int 1))) (tOp rIx1 (tVar 3) (tC (.int 1)))) tNil))) tNil)))))))))))))))))
theorem pure_law {K : PySem.W.Frag} {C Z : Addr} (vs : List V) (H : Hp) (Q : VK) (E : XK) (h : spLaw K vs H Q E) : t_law K C Z E { nx := fun _ H' => Q .non H', rt := Q } (start ["script", "pool", "one", "two", "number", "first", "second", "kind"] vs) H := by
  obtain ⟨a, ns, rfl, hS, hl, k⟩ := h
  show t_law K C Z E _ [some (.ref a), none, none, none, none, none, none, none] H
  unfold t_law
  -- the draws
  rw [x_seq]
  simp only [x_if, x_test, x_B, x_op, x_un, x_varS, x_var0, x_c, x_I0, x_I, x_U, x_bl, x_ret, x_next, x_asg, x_name, x_set0, x_setS, x_drop, x_cb, x_cons, x_nil, x_int1, x_abs1, x_max2, x_gcd, x_gsub, x_sl, x_part, x_nopart, x_int, x_call, x_lst, x_tup, x_not, x_and, x_or, x_andV, x_orV, x_notV, x_ifE, x_eqI, x_neI, x_eqB, x_neB, x_tbm, x_never, x_make, x_meth, x_isII, x_isIC, x_bool1, decide_eq_true_eq, Bool.false_eq_true, if_false, if_true, List.append_nil, List.nil_append, List.cons_append]
  refine ⟨a, ns, rfl, hS, hl, fun P H1 hp1 s1 => ?_⟩
  dsimp only
  rw [x_seq]
  simp only [x_if, x_test, x_B, x_op, x_un, x_varS, x_var0, x_c, x_I0, x_I, x_U, x_bl, x_ret, x_next, x_asg, x_name, x_set0, x_setS, x_drop, x_cb, x_cons, x_nil, x_int1, x_abs1, x_max2, x_gcd, x_gsub, x_sl, x_part, x_nopart, x_int, x_call, x_lst, x_tup, x_not, x_and, x_or, x_andV, x_orV, x_notV, x_ifE, x_eqI, x_neI, x_eqB, x_neB, x_tbm, x_never, x_make, x_meth, x_isII, x_isIC, x_bool1, decide_eq_true_eq, Bool.false_eq_true, if_false, if_true, List.append_nil, List.nil_append, List.cons_append]
  refine ⟨P, rfl, hp1, fun o1 H2 x1 y1 h3 hp2 k2 n1 b1 c1 => ?_⟩
  dsimp only
  rw [x_seq]
  simp only [x_if, x_test, x_B, x_op, x_un, x_varS, x_var0, x_c, x_I0, x_I, x_U, x_bl, x_ret, x_next, x_asg, x_name, x_set0, x_setS, x_drop, x_cb, x_cons, x_nil, x_int1, x_abs1, x_max2, x_gcd, x_gsub, x_sl, x_part, x_nopart, x_int, x_call, x_lst, x_tup, x_not, x_and, x_or, x_andV, x_orV, x_notV, x_ifE, x_eqI, x_neI, x_eqB, x_neB, x_tbm, x_never, x_make, x_meth, x_isII, x_isIC, x_bool1, decide_eq_true_eq, Bool.false_eq_true, if_false, if_true, List.append_nil, List.nil_append, List.cons_append]
  refine ⟨P, o1, x1, y1, rfl, hp2, h3, n1, b1, c1, fun o2 H3 x2 y2 h4 hp3 k3 n2 b2 c2 => ?_⟩
  have h3 := h3.keep hp2 k3
  dsimp only
  rw [x_seq]
  simp only [x_if, x_test, x_B, x_op, x_un, x_varS, x_var0, x_c, x_I0, x_I, x_U, x_bl, x_ret, x_next, x_asg, x_name, x_set0, x_setS, x_drop, x_cb, x_cons, x_nil, x_int1, x_abs1, x_max2, x_gcd, x_gsub, x_sl, x_part, x_nopart, x_int, x_call, x_lst, x_tup, x_not, x_and, x_or, x_andV, x_orV, x_notV, x_ifE, x_eqI, x_neI, x_eqB, x_neB, x_tbm, x_never, x_make, x_meth, x_isII, x_isIC, x_bool1, decide_eq_true_eq, Bool.false_eq_true, if_false, if_true, List.append_nil, List.nil_append, List.cons_append]
  refine ⟨P, o1, x1, y1, rfl, hp3, h3, n1, b1, c1, fun u H4 hp4 k4 bu => ?_⟩
  have h3 := h3.keep hp3 k4
  have h4 := h4.keep hp3 k4
  -- the ratios
  dsimp only
  rw [x_seq]
  simp only [x_if, x_test, x_B, x_op, x_un, x_varS, x_var0, x_c, x_I0, x_I, x_U, x_bl, x_ret, x_next, x_asg, x_name, x_set0, x_setS, x_drop, x_cb, x_cons, x_nil, x_int1, x_abs1, x_max2, x_gcd, x_gsub, x_sl, x_part, x_nopart, x_int, x_call, x_lst, x_tup, x_not, x_and, x_or, x_andV, x_orV, x_notV, x_ifE, x_eqI, x_neI, x_eqB, x_neB, x_tbm, x_never, x_make, x_meth, x_isII, x_isIC, x_bool1, decide_eq_true_eq, Bool.false_eq_true, if_false, if_true, List.append_nil, List.nil_append, List.cons_append, x_ixT h3 at0, x_ixT h3 at1]
  refine fun f d m1 m2 m3 => make_at (b1.mono (by decide)) (c1.mono (by decide)) n1 m1 m2 m3 fun H5 t b hr hn s5 => ?_
  have h3 := h3.same s5
  have h4 := h4.same s5
  rw [x_seq]
  simp only [x_if, x_test, x_B, x_op, x_un, x_varS, x_var0, x_c, x_I0, x_I, x_U, x_bl, x_ret, x_next, x_asg, x_name, x_set0, x_setS, x_drop, x_cb, x_cons, x_nil, x_int1, x_abs1, x_max2, x_gcd, x_gsub, x_sl, x_part, x_nopart, x_int, x_call, x_lst, x_tup, x_not, x_and, x_or, x_andV, x_orV, x_notV, x_ifE, x_eqI, x_neI, x_eqB, x_neB, x_tbm, x_never, x_make, x_meth, x_isII, x_isIC, x_bool1, decide_eq_true_eq, Bool.false_eq_true, if_false, if_true, List.append_nil, List.nil_append, List.cons_append, x_ixT h4 at0, x_ixT h4 at1]
  refine fun s d m1 m2 m3 => make_at (b2.mono (by decide)) (c2.mono (by decide)) n2 m1 m2 m3 fun H6 t' b' hr' hn' s6 => ?_
  have h3 := h3.same s6
  have h4 := h4.same s6
  have hr := hr.same s6
  have B1 : Bd 2000 x1 := b1.mono (by decide)
  have C1 : Bd 2000 y1 := c1.mono (by decide)
  have B2 : Bd 2000 x2 := b2.mono (by decide)
  have C2 : Bd 2000 y2 := c2.mono (by decide)
  have base : Base C H6 f s o1 o2 x1 y1 x2 y2 := ⟨⟨t, b, hr, hn⟩, ⟨t', b', hr', hn'⟩, h3, h4, n1, n2, b1, c1, b2, c2⟩
  clear hS s1 k2 k3 k4 s5 s6 hp1 hp2 hp3 hp4
  -- both are right
  rw [x_seq]
  simp only [x_if, x_test, x_B, x_op, x_un, x_varS, x_var0, x_c, x_I0, x_I, x_U, x_bl, x_ret, x_next, x_asg, x_name, x_set0, x_setS, x_drop, x_cb, x_cons, x_nil, x_int1, x_abs1, x_max2, x_gcd, x_gsub, x_sl, x_part, x_nopart, x_int, x_call, x_lst, x_tup, x_not, x_and, x_or, x_andV, x_orV, x_notV, x_ifE, x_eqI, x_neI, x_eqB, x_neB, x_tbm, x_never, x_make, x_meth, x_isII, x_isIC, x_bool1, decide_eq_true_eq, Bool.false_eq_true, if_false, if_true, List.append_nil, List.nil_append, List.cons_append]
  refine right_of hr hn h3 n1 B1 C1 ?_
  simp only [x_if, x_test, x_B, x_op, x_un, x_varS, x_var0, x_c, x_I0, x_I, x_U, x_bl, x_ret, x_next, x_asg, x_name, x_set0, x_setS, x_drop, x_cb, x_cons, x_nil, x_int1, x_abs1, x_max2, x_gcd, x_gsub, x_sl, x_part, x_nopart, x_int, x_call, x_lst, x_tup, x_not, x_and, x_or, x_andV, x_orV, x_notV, x_ifE, x_eqI, x_neI, x_eqB, x_neB, x_tbm, x_never, x_make, x_meth, x_isII, x_isIC, x_bool1, decide_eq_true_eq, Bool.false_eq_true, if_false, if_true, List.append_nil, List.nil_append, List.cons_append, Bool.not_true]
  refine right_of hr' hn' h4 n2 B2 C2 ?_
  simp only [x_if, x_test, x_B, x_op, x_un, x_varS, x_var0, x_c, x_I0, x_I, x_U, x_bl, x_ret, x_next, x_asg, x_name, x_set0, x_setS, x_drop, x_cb, x_cons, x_nil, x_int1, x_abs1, x_max2, x_gcd, x_gsub, x_sl, x_part, x_nopart, x_int, x_call, x_lst, x_tup, x_not, x_and, x_or, x_andV, x_orV, x_notV, x_ifE, x_eqI, x_neI, x_eqB, x_neB, x_tbm, x_never, x_make, x_meth, x_isII, x_isIC, x_bool1, decide_eq_true_eq, Bool.false_eq_true, if_false, if_true, List.append_nil, List.nil_append, List.cons_append, Bool.not_true]
  rw [x_seq]
  simp only [x_if, x_test, x_B, x_op, x_un, x_varS, x_var0, x_c, x_I0, x_I, x_U, x_bl, x_ret, x_next, x_asg, x_name, x_set0, x_setS, x_drop, x_cb, x_cons, x_nil, x_int1, x_abs1, x_max2, x_gcd, x_gsub, x_sl, x_part, x_nopart, x_int, x_call, x_lst, x_tup, x_not, x_and, x_or, x_andV, x_orV, x_notV, x_ifE, x_eqI, x_neI, x_eqB, x_neB, x_tbm, x_never, x_make, x_meth, x_isII, x_isIC, x_bool1, decide_eq_true_eq, Bool.false_eq_true, if_false, if_true, List.append_nil, List.nil_append, List.cons_append]
  refine ⟨f, s, o1, o2, x1, y1, x2, y2, u, rfl, base, bu, fun H7 s7 => ?_⟩
  have base := base.same s7
  simp only [x_if, x_test, x_B, x_op, x_un, x_varS, x_var0, x_c, x_I0, x_I, x_U, x_bl, x_ret, x_next, x_asg, x_name, x_set0, x_setS, x_drop, x_cb, x_cons, x_nil, x_int1, x_abs1, x_max2, x_gcd, x_gsub, x_sl, x_part, x_nopart, x_int, x_call, x_lst, x_tup, x_not, x_and, x_or, x_andV, x_orV, x_notV, x_ifE, x_eqI, x_neI, x_eqB, x_neB, x_tbm, x_never, x_make, x_meth, x_isII, x_isIC, x_bool1, decide_eq_true_eq, Bool.false_eq_true, if_false, if_true, List.append_nil, List.nil_append, List.cons_append, Bool.not_true]
  rw [x_seq]
  simp only [x_if, x_test, x_B, x_op, x_un, x_varS, x_var0, x_c, x_I0, x_I, x_U, x_bl, x_ret, x_next, x_asg, x_name, x_set0, x_setS, x_drop, x_cb, x_cons, x_nil, x_int1, x_abs1, x_max2, x_gcd, x_gsub, x_sl, x_part, x_nopart, x_int, x_call, x_lst, x_tup, x_not, x_and, x_or, x_andV, x_orV, x_notV, x_ifE, x_eqI, x_neI, x_eqB, x_neB, x_tbm, x_never, x_make, x_meth, x_isII, x_isIC, x_bool1, decide_eq_true_eq, Bool.false_eq_true, if_false, if_true, List.append_nil, List.nil_append, List.cons_append]
  refine ⟨f, s, o1, o2, x1, y1, x2, y2, u, rfl, base, bu, fun H8 s8 => ?_⟩
  have base := base.same s8
  simp only [x_if, x_test, x_B, x_op, x_un, x_varS, x_var0, x_c, x_I0, x_I, x_U, x_bl, x_ret, x_next, x_asg, x_name, x_set0, x_setS, x_drop, x_cb, x_cons, x_nil, x_int1, x_abs1, x_max2, x_gcd, x_gsub, x_sl, x_part, x_nopart, x_int, x_call, x_lst, x_tup, x_not, x_and, x_or, x_andV, x_orV, x_notV, x_ifE, x_eqI, x_neI, x_eqB, x_neB, x_tbm, x_never, x_make, x_meth, x_isII, x_isIC, x_bool1, decide_eq_true_eq, Bool.false_eq_true, if_false, if_true, List.append_nil, List.nil_append, List.cons_append, Bool.not_true]
  refine ⟨f, s, o1, o2, x1, y1, x2, y2, rfl, base, fun H9 s9 => ?_⟩
  have base := base.same s9
  simp only [x_if, x_test, x_B, x_op, x_un, x_varS, x_var0, x_c, x_I0, x_I, x_U, x_bl, x_ret, x_next, x_asg, x_name, x_set0, x_setS, x_drop, x_cb, x_cons, x_nil, x_int1, x_abs1, x_max2, x_gcd, x_gsub, x_sl, x_part, x_nopart, x_int, x_call, x_lst, x_tup, x_not, x_and, x_or, x_andV, x_orV, x_notV, x_ifE, x_eqI, x_neI, x_eqB, x_neB, x_tbm, x_never, x_make, x_meth, x_isII, x_isIC, x_bool1, decide_eq_true_eq, Bool.false_eq_true, if_false, if_true, List.append_nil, List.nil_append, List.cons_append, Bool.not_true]
  rw [x_seq]
  have l1 := hn.le n1
  have l2 := hn'.le n2
  refine for_rngC (by decide) (fun i σ H' => Same H9 H' ∧ ∃ w : Option V, σ = [some (.ref a), some (.ref P), some (.ref o1), some (.ref o2), some (.int u), some (.ref f), some (.ref s), w]) ⟨fun _ _ e => e, _, rfl⟩ ?_ ?_
  · rintro i σ H' hi ⟨s10, w, rfl⟩
    have base := base.same s10
    simp only [x_if, x_test, x_B, x_op, x_un, x_varS, x_var0, x_c, x_I0, x_I, x_U, x_bl, x_ret, x_next, x_asg, x_name, x_set0, x_setS, x_drop, x_cb, x_cons, x_nil, x_int1, x_abs1, x_max2, x_gcd, x_gsub, x_sl, x_part, x_nopart, x_int, x_call, x_lst, x_tup, x_not, x_and, x_or, x_andV, x_orV, x_notV, x_ifE, x_eqI, x_neI, x_eqB, x_neB, x_tbm, x_never, x_make, x_meth, x_isII, x_isIC, x_bool1, decide_eq_true_eq, Bool.false_eq_true, if_false, if_true, List.append_nil, List.nil_append, List.cons_append, x_ixT base.t1 at0]
    obtain ⟨t9, b9, hr9, hn9⟩ := base.f
    have l9 := hn9.le n1
    refine ⟨f, t9, b9, x1, (i : Int), rfl, hr9, hn9.low, b1.of l9.1, c1.of l9.2, b1, by omega, hi, fun H11 s11 => ?_⟩
    simp only [x_if, x_test, x_B, x_op, x_un, x_varS, x_var0, x_c, x_I0, x_I, x_U, x_bl, x_ret, x_next, x_asg, x_name, x_set0, x_setS, x_drop, x_cb, x_cons, x_nil, x_int1, x_abs1, x_max2, x_gcd, x_gsub, x_sl, x_part, x_nopart, x_int, x_call, x_lst, x_tup, x_not, x_and, x_or, x_andV, x_orV, x_notV, x_ifE, x_eqI, x_neI, x_eqB, x_neB, x_tbm, x_never, x_make, x_meth, x_isII, x_isIC, x_bool1, decide_eq_true_eq, Bool.false_eq_true, if_false, if_true, List.append_nil, List.nil_append, List.cons_append, Bool.not_true]
    exact ⟨s10.trans s11, _, rfl⟩
  · rintro σ H' ⟨s10, w, rfl⟩
    have base := base.same s10
    clear s7 s8 s9 s10 hr hr' h3 h4
    obtain ⟨⟨t, b, hr, hn⟩, ⟨t', b', hr', hn'⟩, h3, h4, n1, n2, b1, c1, b2, c2⟩ := id base
    have Bm : Bd 2000 (-1) := (Bd.one (n := 2000) (by decide)).neg
    have F : RatE C H' [some (.ref a), some (.ref P), some (.ref o1), some (.ref o2), some (.int u), some (.ref f), some (.ref s), w] (tVar 5) x1 y1 := RatE.at (ne_list rfl) hr hn
    have S : RatE C H' [some (.ref a), some (.ref P), some (.ref o1), some (.ref o2), some (.int u), some (.ref f), some (.ref s), w] (tVar 6) x2 y2 := RatE.at (ne_list rfl) hr' hn'
    have T1 : TupE H' [some (.ref a), some (.ref P), some (.ref o1), some (.ref o2), some (.int u), some (.ref f), some (.ref s), w] (tVar 2) x1 y1 := TupE.at (ne_list rfl) h3
    have T2 : TupE H' [some (.ref a), some (.ref P), some (.ref o1), some (.ref o2), some (.int u), some (.ref f), some (.ref s), w] (tVar 3) x2 y2 := TupE.at (ne_list rfl) h4
    have N1 : IntE H' [some (.ref a), some (.ref P), some (.ref o1), some (.ref o2), some (.int u), some (.ref f), some (.ref s), w] (tOp rIx1 (tVar 2) (tC (.int 0))) x1 := (fun H1 Q s k => by simp only [x_if, x_test, x_B, x_op, x_un, x_varS, x_var0, x_c, x_I0, x_I, x_U, x_bl, x_ret, x_next, x_asg, x_name, x_set0, x_setS, x_drop, x_cb, x_cons, x_nil, x_int1, x_abs1, x_max2, x_gcd, x_gsub, x_sl, x_part, x_nopart, x_int, x_call, x_lst, x_tup, x_not, x_and, x_or, x_andV, x_orV, x_notV, x_ifE, x_eqI, x_neI, x_eqB, x_neB, x_tbm, x_never, x_make, x_meth, x_isII, x_isIC, x_bool1, decide_eq_true_eq, Bool.false_eq_true, if_false, if_true, List.append_nil, List.nil_append, List.cons_append, x_ixT (h3.same s) at0, x_ixT (h3.same s) at1]; exact k)
    have O1 : IntE H' [some (.ref a), some (.ref P), some (.ref o1), some (.ref o2), some (.int u), some (.ref f), some (.ref s), w] (tC (.int 1)) 1 := (fun H1 Q s k => by simp only [x_if, x_test, x_B, x_op, x_un, x_varS, x_var0, x_c, x_I0, x_I, x_U, x_bl, x_ret, x_next, x_asg, x_name, x_set0, x_setS, x_drop, x_cb, x_cons, x_nil, x_int1, x_abs1, x_max2, x_gcd, x_gsub, x_sl, x_part, x_nopart, x_int, x_call, x_lst, x_tup, x_not, x_and, x_or, x_andV, x_orV, x_notV, x_ifE, x_eqI, x_neI, x_eqB, x_neB, x_tbm, x_never, x_make, x_meth, x_isII, x_isIC, x_bool1, decide_eq_true_eq, Bool.false_eq_true, if_false, if_true, List.append_nil, List.nil_append, List.cons_append, x_ixT (h3.same s) at0, x_ixT (h3.same s) at1]; exact k)
    have M1 : IntE H' [some (.ref a), some (.ref P), some (.ref o1), some (.ref o2), some (.int u), some (.ref f), some (.ref s), w] (tUn (rU fun i => .int (-i)) (tC (.int 1))) (-1) := (fun H1 Q s k => by simp only [x_if, x_test, x_B, x_op, x_un, x_varS, x_var0, x_c, x_I0, x_I, x_U, x_bl, x_ret, x_next, x_asg, x_name, x_set0, x_setS, x_drop, x_cb, x_cons, x_nil, x_int1, x_abs1, x_max2, x_gcd, x_gsub, x_sl, x_part, x_nopart, x_int, x_call, x_lst, x_tup, x_not, x_and, x_or, x_andV, x_orV, x_notV, x_ifE, x_eqI, x_neI, x_eqB, x_neB, x_tbm, x_never, x_make, x_meth, x_isII, x_isIC, x_bool1, decide_eq_true_eq, Bool.false_eq_true, if_false, if_true, List.append_nil, List.nil_append, List.cons_append, x_ixT (h3.same s) at0, x_ixT (h3.same s) at1]; exact k)
    have G1 : IntE H' [some (.ref a), some (.ref P), some (.ref o1), some (.ref o2), some (.int u), some (.ref f), some (.ref s), w] (tUn (rU fun i => .int (-i)) (tOp rIx1 (tVar 2) (tC (.int 0)))) (-x1) := (fun H1 Q s k => by simp only [x_if, x_test, x_B, x_op, x_un, x_varS, x_var0, x_c, x_I0, x_I, x_U, x_bl, x_ret, x_next, x_asg, x_name, x_set0, x_setS, x_drop, x_cb, x_cons, x_nil, x_int1, x_abs1, x_max2, x_gcd, x_gsub, x_sl, x_part, x_nopart, x_int, x_call, x_lst, x_tup, x_not, x_and, x_or, x_andV, x_orV, x_notV, x_ifE, x_eqI, x_neI, x_eqB, x_neB, x_tbm, x_never, x_make, x_meth, x_isII, x_isIC, x_bool1, decide_eq_true_eq, Bool.false_eq_true, if_false, if_true, List.append_nil, List.nil_append, List.cons_append, x_ixT (h3.same s) at0, x_ixT (h3.same s) at1]; exact k)
    have D1 : IntE H' [some (.ref a), some (.ref P), some (.ref o1), some (.ref o2), some (.int u), some (.ref f), some (.ref s), w] (tOp rIx1 (tVar 2) (tC (.int 1))) y1 := (fun H1 Q s k => by simp only [x_if, x_test, x_B, x_op, x_un, x_varS, x_var0, x_c, x_I0, x_I, x_U, x_bl, x_ret, x_next, x_asg, x_name, x_set0, x_setS, x_drop, x_cb, x_cons, x_nil, x_int1, x_abs1, x_max2, x_gcd, x_gsub, x_sl, x_part, x_nopart, x_int, x_call, x_lst, x_tup, x_not, x_and, x_or, x_andV, x_orV, x_notV, x_ifE, x_eqI, x_neI, x_eqB, x_neB, x_tbm, x_never, x_make, x_meth, x_isII, x_isIC, x_bool1, decide_eq_true_eq, Bool.false_eq_true, if_false, if_true, List.append_nil, List.nil_append, List.cons_append, x_ixT (h3.same s) at0, x_ixT (h3.same s) at1]; exact k)
    have one : Bd 2000 1 := .one (by decide)
    have z : Same H' H' := fun _ _ e => e
    dsimp only
    rw [x_seq]
    refine Says.or2 (.right (.make N1 O1 (by decide) (B1.mono (by decide)) (one.mono (by decide))) (.lit N1 O1) (by decide) B1 one)
      (.right (.conv (.make N1 M1 (by decide) (B1.mono (by decide)) (Bm.mono (by decide))) (by decide) (x2 := -x1) (y2 := 1) (by omega)) (.lit G1 O1) (by decide) B1.neg one) z fun H2 s2 => ?_
    dsimp only
    rw [x_seq]
    refine Says.or2 (.right (.conv (F.overI O1 n1 (by decide) B1 C1 one) (Int.mul_ne_zero n1 (by decide)) (by grind)) T1 n1 B1 C1)
      (.right (.conv (F.overI M1 n1 (by decide) B1 C1 Bm) (Int.mul_ne_zero n1 (by decide)) (x2 := -x1) (y2 := y1) (by grind)) (.lit G1 D1) n1 B1.neg C1) s2 fun H3 s3 => ?_
    dsimp only
    rw [x_seq]
    refine Says.or2 (.right F T1 n1 B1 C1) (.right S T2 n2 B2 C2) s3 fun H4 s4 => ?_
    dsimp only
    rw [x_ret]
    have bl : Bd 512 (x1 * y2) := b1.mul c2
    have br : Bd 512 (x2 * y1) := b2.mul c1
    refine Says.right (x := x1 * y2 + x2 * y1) (y := y1 * y2) (F.bin nok_add S n1 n2 B1 C1 B2 C2) (.lit (fun H1 Q s k => by simp only [x_if, x_test, x_B, x_op, x_un, x_varS, x_var0, x_c, x_I0, x_I, x_U, x_bl, x_ret, x_next, x_asg, x_name, x_set0, x_setS, x_drop, x_cb, x_cons, x_nil, x_int1, x_abs1, x_max2, x_gcd, x_gsub, x_sl, x_part, x_nopart, x_int, x_call, x_lst, x_tup, x_not, x_and, x_or, x_andV, x_orV, x_notV, x_ifE, x_eqI, x_neI, x_eqB, x_neB, x_tbm, x_never, x_make, x_meth, x_isII, x_isIC, x_bool1, decide_eq_true_eq, Bool.false_eq_true, if_false, if_true, List.append_nil, List.nil_append, List.cons_append, x_ixT (h3.same s) at0, x_ixT (h3.same s) at1, x_ixT (h4.same s) at0, x_ixT (h4.same s) at1]; exact ⟨B1.ok2 C2, B2.ok2 C1, k⟩)
      (fun H1 Q s k => by simp only [x_if, x_test, x_B, x_op, x_un, x_varS, x_var0, x_c, x_I0, x_I, x_U, x_bl, x_ret, x_next, x_asg, x_name, x_set0, x_setS, x_drop, x_cb, x_cons, x_nil, x_int1, x_abs1, x_max2, x_gcd, x_gsub, x_sl, x_part, x_nopart, x_int, x_call, x_lst, x_tup, x_not, x_and, x_or, x_andV, x_orV, x_notV, x_ifE, x_eqI, x_neI, x_eqB, x_neB, x_tbm, x_never, x_make, x_meth, x_isII, x_isIC, x_bool1, decide_eq_true_eq, Bool.false_eq_true, if_false, if_true, List.append_nil, List.nil_append, List.cons_append, x_ixT (h3.same s) at1, x_ixT (h4.same s) at1]; exact ⟨C1.ok2 C2, k⟩)) (Int.mul_ne_zero n1 n2) ((bl.add br).mono (by decide)) ((c1.mul c2).mono (by decide)) _ _ s4 fun H5 _ => k H5
end SpX

set_option Elab.async false
set_option linter.all false
set_option maxRecDepth 100000
set_option maxHeartbeats 4000000
namespace SpX
open PySem PySem.Spec L2
def top (i : Nat) : Stmt := PySem.Challenge.pw_spotheights_k00_ratios_are_exact.main.body.getD i (.Pass ⟨0, 0, 0, 0⟩)
abbrev s_pool : Stmt := top 17
theorem sc_pool : FnScope ["script", "greats", "smalls", "cell"] ["script"] (defScope s_pool) := ⟨rfl, rfl, rfl, by decide +kernel, rfl, by decide +kernel, by decide +kernel⟩
abbrev s_take : Stmt := top 18
theorem sc_take : FnScope ["pool", "most", "count", "seed", "mixed", "value", "rest"] ["pool", "most"] (defScope s_take) := ⟨rfl, rfl, rfl, by decide +kernel, rfl, by decide +kernel, by decide +kernel⟩
abbrev s_integer : Stmt := top 19
theorem sc_integer : FnScope ["thing"] ["thing"] (defScope s_integer) := ⟨rfl, rfl, rfl, by decide +kernel, rfl, by decide +kernel, by decide +kernel⟩
abbrev s_common : Stmt := top 20
theorem sc_common : FnScope ["one", "two", "k", "rest"] ["one", "two"] (defScope s_common) := ⟨rfl, rfl, rfl, by decide +kernel, rfl, by decide +kernel, by decide +kernel⟩
abbrev s_init : Stmt := inClass (top 11) 0
theorem sc_init : FnScope ["self", "top", "bottom", "common"] ["self", "top", "bottom"] (defScope s_init) := ⟨rfl, rfl, rfl, by decide +kernel, rfl, by decide +kernel, by decide +kernel⟩
abbrev s_add : Stmt := inClass (top 11) 1
theorem sc_add : FnScope ["self", "other"] ["self", "other"] (defScope s_add) := ⟨rfl, rfl, rfl, by decide +kernel, rfl, by decide +kernel, by decide +kernel⟩
abbrev s_sub : Stmt := inClass (top 11) 3
theorem sc_sub : FnScope ["self", "other"] ["self", "other"] (defScope s_sub) := ⟨rfl, rfl, rfl, by decide +kernel, rfl, by decide +kernel, by decide +kernel⟩
abbrev s_mul : Stmt := inClass (top 11) 5
theorem sc_mul : FnScope ["self", "other"] ["self", "other"] (defScope s_mul) := ⟨rfl, rfl, rfl, by decide +kernel, rfl, by decide +kernel, by decide +kernel⟩
abbrev s_neg : Stmt := inClass (top 11) 7
theorem sc_neg : FnScope ["self"] ["self"] (defScope s_neg) := ⟨rfl, rfl, rfl, by decide +kernel, rfl, by decide +kernel, by decide +kernel⟩
abbrev s_radd : Stmt := inClass (top 11) 2
theorem sc_radd : FnScope ["self", "other"] ["self", "other"] (defScope s_radd) := ⟨rfl, rfl, rfl, by decide +kernel, rfl, by decide +kernel, by decide +kernel⟩
abbrev s_rsub : Stmt := inClass (top 11) 4
theorem sc_rsub : FnScope ["self", "other"] ["self", "other"] (defScope s_rsub) := ⟨rfl, rfl, rfl, by decide +kernel, rfl, by decide +kernel, by decide +kernel⟩
abbrev s_rmul : Stmt := inClass (top 11) 6
theorem sc_rmul : FnScope ["self", "other"] ["self", "other"] (defScope s_rmul) := ⟨rfl, rfl, rfl, by decide +kernel, rfl, by decide +kernel, by decide +kernel⟩
abbrev s_abs : Stmt := inClass (top 11) 8
theorem sc_abs : FnScope ["self"] ["self"] (defScope s_abs) := ⟨rfl, rfl, rfl, by decide +kernel, rfl, by decide +kernel, by decide +kernel⟩
abbrev s_eq : Stmt := inClass (top 11) 9
theorem sc_eq : FnScope ["self", "other"] ["self", "other"] (defScope s_eq) := ⟨rfl, rfl, rfl, by decide +kernel, rfl, by decide +kernel, by decide +kernel⟩
abbrev s_bool : Stmt := inClass (top 11) 10
theorem sc_bool : FnScope ["self"] ["self"] (defScope s_bool) := ⟨rfl, rfl, rfl, by decide +kernel, rfl, by decide +kernel, by decide +kernel⟩
abbrev s_over : Stmt := inClass (top 11) 12
theorem sc_over : FnScope ["self", "b"] ["self", "b"] (defScope s_over) := ⟨rfl, rfl, rfl, by decide +kernel, rfl, by decide +kernel, by decide +kernel⟩
abbrev s_sign : Stmt := inClass (top 11) 13
theorem sc_sign : FnScope ["self"] ["self"] (defScope s_sign) := ⟨rfl, rfl, rfl, by decide +kernel, rfl, by decide +kernel, by decide +kernel⟩
abbrev s_compare : Stmt := top 12
theorem sc_compare : FnScope ["first", "second"] ["first", "second"] (defScope s_compare) := ⟨rfl, rfl, rfl, by decide +kernel, rfl, by decide +kernel, by decide +kernel⟩
abbrev s_size : Stmt := top 21
theorem sc_size : FnScope ["pool", "kind", "number", "k"] ["pool"] (defScope s_size) := ⟨rfl, rfl, rfl, by decide +kernel, rfl, by decide +kernel, by decide +kernel⟩
abbrev s_fraction : Stmt := top 22
theorem sc_fraction : FnScope ["pool", "above", "below", "kind", "factor"] ["pool"] (defScope s_fraction) := ⟨rfl, rfl, rfl, by decide +kernel, rfl, by decide +kernel, by decide +kernel⟩
abbrev s_second : Stmt := top 23
theorem sc_second : FnScope ["pool", "one", "kind", "factor"] ["pool", "one"] (defScope s_second) := ⟨rfl, rfl, rfl, by decide +kernel, rfl, by decide +kernel, by decide +kernel⟩
abbrev s_beside : Stmt := top 24
theorem sc_beside : FnScope ["pool", "one", "kind", "number"] ["pool", "one"] (defScope s_beside) := ⟨rfl, rfl, rfl, by decide +kernel, rfl, by decide +kernel, by decide +kernel⟩
abbrev s_right : Stmt := top 25
theorem sc_right : FnScope ["told", "due"] ["told", "due"] (defScope s_right) := ⟨rfl, rfl, rfl, by decide +kernel, rfl, by decide +kernel, by decide +kernel⟩
abbrev s_results : Stmt := top 26
theorem sc_results : FnScope ["first", "second", "number", "one", "two", "left", "right", "ends", "moved", "rows", "row"] ["first", "second", "number", "one", "two"] (defScope s_results) := ⟨rfl, rfl, rfl, by decide +kernel, rfl, by decide +kernel, by decide +kernel⟩
abbrev s_side : Stmt := top 27
theorem sc_side : FnScope ["above", "below"] ["above", "below"] (defScope s_side) := ⟨rfl, rfl, rfl, by decide +kernel, rfl, by decide +kernel, by decide +kernel⟩
abbrev s_signs : Stmt := top 28
theorem sc_signs : FnScope ["first", "second", "one", "two", "apart", "rows", "row"] ["first", "second", "one", "two"] (defScope s_signs) := ⟨rfl, rfl, rfl, by decide +kernel, rfl, by decide +kernel, by decide +kernel⟩
abbrev s_compared : Stmt := top 29
theorem sc_compared : FnScope ["first", "second", "number", "one", "two", "same", "whole"] ["first", "second", "number", "one", "two"] (defScope s_compared) := ⟨rfl, rfl, rfl, by decide +kernel, rfl, by decide +kernel, by decide +kernel⟩
abbrev s_refused : Stmt := top 30
theorem sc_refused : FnScope ["first", "above", "kind", "flags", "e", "others"] ["first", "above", "kind"] (defScope s_refused) := ⟨rfl, rfl, rfl, by decide +kernel, rfl, by decide +kernel, by decide +kernel⟩
abbrev s_law : Stmt := top 31
theorem sc_law : FnScope ["script", "pool", "one", "two", "number", "first", "second", "kind"] ["script"] (defScope s_law) := ⟨rfl, rfl, rfl, by decide +kernel, rfl, by decide +kernel, by decide +kernel⟩
structure Ad where
  C : Addr
  Z : Addr
  BN : Addr
  TL : Addr
  SE : Addr
  ds : List Value
  f_pool : Addr
  d_pool : FuncData
  f_take : Addr
  d_take : FuncData
  f_integer : Addr
  d_integer : FuncData
  f_common : Addr
  d_common : FuncData
  f_init : Addr
  d_init : FuncData
  f_add : Addr
  d_add : FuncData
  f_sub : Addr
  d_sub : FuncData
  f_mul : Addr
  d_mul : FuncData
  f_neg : Addr
  d_neg : FuncData
  f_radd : Addr
  d_radd : FuncData
  f_rsub : Addr
  d_rsub : FuncData
  f_rmul : Addr
  d_rmul : FuncData
  f_abs : Addr
  d_abs : FuncData
  f_eq : Addr
  d_eq : FuncData
  f_bool : Addr
  d_bool : FuncData
  f_over : Addr
  d_over : FuncData
  f_sign : Addr
  d_sign : FuncData
  f_compare : Addr
  d_compare : FuncData
  f_size : Addr
  d_size : FuncData
  f_fraction : Addr
  d_fraction : FuncData
  f_second : Addr
  d_second : FuncData
  f_beside : Addr
  d_beside : FuncData
  f_right : Addr
  d_right : FuncData
  f_results : Addr
  d_results : FuncData
  f_side : Addr
  d_side : FuncData
  f_signs : Addr
  d_signs : FuncData
  f_compared : Addr
  d_compared : FuncData
  f_refused : Addr
  d_refused : FuncData
  f_law : Addr
  d_law : FuncData
/-- what the top has written -/
structure Txt (K : PySem.W.Frag) (mg : Str → Option Value) (a : Ad) : Prop where
  isa_Ratio : IsaOk K a.C
  na_top : NoAttr K a.C "top"
  na_bottom : NoAttr K a.C "bottom"
  g_Ratio : mg "Ratio" = some (.ref a.C)
  mk_Ratio : Mk K a.C a.f_init
  v_init1 : Vals [.int 1] a.ds
  b_init1 : Binds K a.d_init ["self", "top", "bottom"] a.ds
  F_init : FunD K "__init__" "Ratio.__init__" (defArgs s_init) (defBody s_init) (defScope s_init) [.int 1] [] a.f_init a.d_init
  m_over : Meth K a.C "over" a.f_over
  m_sign : Meth K a.C "sign" a.f_sign
  g_gcd : mg "gcd" = some (.builtin "math.gcd")
  xZ : PySem.W.excIn K a.Z [.type "ValueError", .type "Exception", .type "BaseException", .type "object"] "ValueError.__new__" = true
  gZ : mg "ZeroDivisor" = some (.ref a.Z)
  kZ : PySem.W.keepIn K (.ref a.Z) = true
  bZ : PySem.W.subIn K (.ref a.Z) (.type "BaseException") = some true
  tZ : PySem.W.typeIn K (.ref a.Z) = some (.type "type")
  g_BadNumber : mg "BadNumber" = some (.ref a.BN)
  g_TooLarge : mg "TooLarge" = some (.ref a.TL)
  g_SpotError : mg "SpotError" = some (.ref a.SE)
  exc : ExcTxt K a.Z a.BN a.TL a.SE
  n_len : mg "len" = none
  n_abs : mg "abs" = none
  n_int : mg "int" = none
  n_list : mg "list" = none
  n_bool : mg "bool" = none
  n_max : mg "max" = none
  n_isinstance : mg "isinstance" = none
  n_range : mg "range" = none
  n_ValueError : mg "ValueError" = none
  o_add : OwnOp K a.C .Add a.f_add
  i_add : OwnInt K a.C .Add
  o_radd : OwnRef K a.C .Add a.f_radd
  o_sub : OwnOp K a.C .Sub a.f_sub
  i_sub : OwnInt K a.C .Sub
  o_rsub : OwnRef K a.C .Sub a.f_rsub
  o_mul : OwnOp K a.C .Mult a.f_mul
  i_mul : OwnInt K a.C .Mult
  o_rmul : OwnRef K a.C .Mult a.f_rmul
  o_neg : PySem.W.findIn K (.ref a.C) "__neg__" = some (some (.ref a.f_neg))
  i_neg : PySem.W.isFn K (.ref a.f_neg) = true
  o_abs : PySem.W.findIn K (.ref a.C) "__abs__" = some (some (.ref a.f_abs))
  i_abs : PySem.W.isFn K (.ref a.f_abs) = true
  o_bool : PySem.W.findIn K (.ref a.C) "__bool__" = some (some (.ref a.f_bool))
  i_bool : PySem.W.isFn K (.ref a.f_bool) = true
  o_eq : OwnEqF K a.C a.f_eq
  F_pool : Fun K "_law_pool" "_law_pool" s_pool a.f_pool a.d_pool
  b_pool : Binds K a.d_pool ["script"] []
  g_pool : mg "_law_pool" = some (.ref a.f_pool)
  k_pool : PySem.W.keepIn K (.ref a.f_pool) = true
  F_take : Fun K "_law_take" "_law_take" s_take a.f_take a.d_take
  b_take : Binds K a.d_take ["pool", "most"] []
  g_take : mg "_law_take" = some (.ref a.f_take)
  k_take : PySem.W.keepIn K (.ref a.f_take) = true
  F_integer : Fun K "_law_integer" "_law_integer" s_integer a.f_integer a.d_integer
  b_integer : Binds K a.d_integer ["thing"] []
  g_integer : mg "_law_integer" = some (.ref a.f_integer)
  k_integer : PySem.W.keepIn K (.ref a.f_integer) = true
  F_common : Fun K "_law_common" "_law_common" s_common a.f_common a.d_common
  b_common : Binds K a.d_common ["one", "two"] []
  g_common : mg "_law_common" = some (.ref a.f_common)
  k_common : PySem.W.keepIn K (.ref a.f_common) = true
  b_init : Binds K a.d_init ["self", "top", "bottom"] []
  F_add : Fun K "__add__" "Ratio.__add__" s_add a.f_add a.d_add
  b_add : Binds K a.d_add ["self", "other"] []
  F_sub : Fun K "__sub__" "Ratio.__sub__" s_sub a.f_sub a.d_sub
  b_sub : Binds K a.d_sub ["self", "other"] []
  F_mul : Fun K "__mul__" "Ratio.__mul__" s_mul a.f_mul a.d_mul
  b_mul : Binds K a.d_mul ["self", "other"] []
  F_neg : Fun K "__neg__" "Ratio.__neg__" s_neg a.f_neg a.d_neg
  b_neg : Binds K a.d_neg ["self"] []
  F_radd : Fun K "__radd__" "Ratio.__radd__" s_radd a.f_radd a.d_radd
  b_radd : Binds K a.d_radd ["self", "other"] []
  F_rsub : Fun K "__rsub__" "Ratio.__rsub__" s_rsub a.f_rsub a.d_rsub
  b_rsub : Binds K a.d_rsub ["self", "other"] []
  F_rmul : Fun K "__rmul__" "Ratio.__rmul__" s_rmul a.f_rmul a.d_rmul
  b_rmul : Binds K a.d_rmul ["self", "other"] []
  F_abs : Fun K "__abs__" "Ratio.__abs__" s_abs a.f_abs a.d_abs
  b_abs : Binds K a.d_abs ["self"] []
  F_eq : Fun K "__eq__" "Ratio.__eq__" s_eq a.f_eq a.d_eq
  b_eq : Binds K a.d_eq ["self", "other"] []
  F_bool : Fun K "__bool__" "Ratio.__bool__" s_bool a.f_bool a.d_bool
  b_bool : Binds K a.d_bool ["self"] []
  F_over : Fun K "over" "Ratio.over" s_over a.f_over a.d_over
  b_over : Binds K a.d_over ["self", "b"] []
  F_sign : Fun K "sign" "Ratio.sign" s_sign a.f_sign a.d_sign
  b_sign : Binds K a.d_sign ["self"] []
  F_compare : Fun K "compare" "compare" s_compare a.f_compare a.d_compare
  b_compare : Binds K a.d_compare ["first", "second"] []
  g_compare : mg "compare" = some (.ref a.f_compare)
  k_compare : PySem.W.keepIn K (.ref a.f_compare) = true
  F_size : Fun K "_law_size" "_law_size" s_size a.f_size a.d_size
  b_size : Binds K a.d_size ["pool"] []
  g_size : mg "_law_size" = some (.ref a.f_size)
  k_size : PySem.W.keepIn K (.ref a.f_size) = true
  F_fraction : Fun K "_law_fraction" "_law_fraction" s_fraction a.f_fraction a.d_fraction
  b_fraction : Binds K a.d_fraction ["pool"] []
  g_fraction : mg "_law_fraction" = some (.ref a.f_fraction)
  k_fraction : PySem.W.keepIn K (.ref a.f_fraction) = true
  F_second : Fun K "_law_second" "_law_second" s_second a.f_second a.d_second
  b_second : Binds K a.d_second ["pool", "one"] []
  g_second : mg "_law_second" = some (.ref a.f_second)
  k_second : PySem.W.keepIn K (.ref a.f_second) = true
  F_beside : Fun K "_law_beside" "_law_beside" s_beside a.f_beside a.d_beside
  b_beside : Binds K a.d_beside ["pool", "one"] []
  g_beside : mg "_law_beside" = some (.ref a.f_beside)
  k_beside : PySem.W.keepIn K (.ref a.f_beside) = true
  F_right : Fun K "_law_right" "_law_right" s_right a.f_right a.d_right
  b_right : Binds K a.d_right ["told", "due"] []
  g_right : mg "_law_right" = some (.ref a.f_right)
  k_right : PySem.W.keepIn K (.ref a.f_right) = true
  F_results : Fun K "_law_results" "_law_results" s_results a.f_results a.d_results
  b_results : Binds K a.d_results ["first", "second", "number", "one", "two"] []
  g_results : mg "_law_results" = some (.ref a.f_results)
  k_results : PySem.W.keepIn K (.ref a.f_results) = true
  F_side : Fun K "_law_side" "_law_side" s_side a.f_side a.d_side
  b_side : Binds K a.d_side ["above", "below"] []
  g_side : mg "_law_side" = some (.ref a.f_side)
  k_side : PySem.W.keepIn K (.ref a.f_side) = true
  F_signs : Fun K "_law_signs" "_law_signs" s_signs a.f_signs a.d_signs
  b_signs : Binds K a.d_signs ["first", "second", "one", "two"] []
  g_signs : mg "_law_signs" = some (.ref a.f_signs)
  k_signs : PySem.W.keepIn K (.ref a.f_signs) = true
  F_compared : Fun K "_law_compared" "_law_compared" s_compared a.f_compared a.d_compared
  b_compared : Binds K a.d_compared ["first", "second", "number", "one", "two"] []
  g_compared : mg "_law_compared" = some (.ref a.f_compared)
  k_compared : PySem.W.keepIn K (.ref a.f_compared) = true
  F_refused : Fun K "_law_refused" "_law_refused" s_refused a.f_refused a.d_refused
  b_refused : Binds K a.d_refused ["first", "above", "kind"] []
  g_refused : mg "_law_refused" = some (.ref a.f_refused)
  k_refused : PySem.W.keepIn K (.ref a.f_refused) = true
  F_law : Fun K "law" "law" s_law a.f_law a.d_law
  b_law : Binds K a.d_law ["script"] []
  g_law : mg "law" = some (.ref a.f_law)
  k_law : PySem.W.keepIn K (.ref a.f_law) = true
section
variable {P : Program} {w : World} {K : PySem.W.Frag} {mg : Str → Option Value} {base : Heap} {a : Ad}
theorem ok_pool (T : Txt K mg a) : FnOk P w K mg base CX0 1 a.f_pool a.d_pool ["script"] (spPool K) := by
  refine T.F_pool.ok sc_pool (fun vs H Q E h => by first | (obtain ⟨_, rfl, _⟩ := h; rfl) | (obtain ⟨_, _, rfl, _⟩ := h; rfl) | (obtain ⟨_, _, _, rfl, _⟩ := h; rfl) | (obtain ⟨_, _, _, _, rfl, _⟩ := h; rfl) | (obtain ⟨_, _, _, _, _, rfl, _⟩ := h; rfl) | (obtain ⟨_, _, _, _, _, _, rfl, _⟩ := h; rfl) | (obtain ⟨_, _, _, _, _, _, _, rfl, _⟩ := h; rfl) | (obtain ⟨_, _, _, _, _, _, _, _, rfl, _⟩ := h; rfl) | (obtain ⟨_, _, _, _, _, _, _, _, _, rfl, _⟩ := h; rfl)) (fun cdv A outer s H vs Q E hr h => ⟨t_pool K, ?_, pure_pool vs H Q E h⟩)
  exact (pss_cons (ps_set (i := 1) sc_pool.nd rfl (.inl rfl) (pe_lst pa_nil))
      (pss_cons (ps_set (i := 2) sc_pool.nd rfl (.inl rfl) (pe_lst pa_nil))
      (pss_cons (ps_for PassesOwn.never rfl (pi_list (pv 0)) (pg_name (i := 3) sc_pool.nd rfl (.inl rfl)) (pss_one (ps_if (pt_cmpR op_ge (pe_callB call_abs (by rfl) T.n_abs (by decide +kernel) (pa_cons (pe_callTy call_int1 (by rfl) T.n_int (by decide +kernel) (pa_cons (pv 3) pa_nil)) pa_nil)) (pe_op op_pow pe_int pe_int) (nomark _)) (pss_one (ps_expr (pe_bm PySem.F.plainAttrs_list PySem.F.slot_list_append PySem.F.type_list_append mt_append (pv 1) (pa_cons (pe_callB call_abs (by rfl) T.n_abs (by decide +kernel) (pa_cons (pe_callTy call_int1 (by rfl) T.n_int (by decide +kernel) (pa_cons (pv 3) pa_nil)) pa_nil)) pa_nil)))) (pss_one (ps_expr (pe_bm PySem.F.plainAttrs_list PySem.F.slot_list_append PySem.F.type_list_append mt_append (pv 2) (pa_cons (pe_callB call_abs (by rfl) T.n_abs (by decide +kernel) (pa_cons (pe_callTy call_int1 (by rfl) T.n_int (by decide +kernel) (pa_cons (pv 3) pa_nil)) pa_nil)) pa_nil)))))))
      (pss_cons (ps_if (pt_cmpR op_eq (pe_callB call_lenA (by rfl) T.n_len boot_len (pa_cons (pv 2) pa_nil)) pe_int (nomark _)) (pss_one (ps_expr (pe_bm PySem.F.plainAttrs_list PySem.F.slot_list_append PySem.F.type_list_append mt_append (pv 2) (pa_cons (pe_callB call_lenA (by rfl) T.n_len boot_len (pa_cons (pv 1) pa_nil)) pa_nil)))) pss_nil)
      (pss_one (ps_ret (pe_lst (pa_cons (pv 1) (pa_cons (pv 2) (pa_cons pe_int pa_nil))))))))))
theorem ok_take (T : Txt K mg a) : FnOk P w K mg base CX0 1 a.f_take a.d_take ["pool", "most"] spTake := by
  refine T.F_take.ok sc_take (fun vs H Q E h => by first | (obtain ⟨_, rfl, _⟩ := h; rfl) | (obtain ⟨_, _, rfl, _⟩ := h; rfl) | (obtain ⟨_, _, _, rfl, _⟩ := h; rfl) | (obtain ⟨_, _, _, _, rfl, _⟩ := h; rfl) | (obtain ⟨_, _, _, _, _, rfl, _⟩ := h; rfl) | (obtain ⟨_, _, _, _, _, _, rfl, _⟩ := h; rfl) | (obtain ⟨_, _, _, _, _, _, _, rfl, _⟩ := h; rfl) | (obtain ⟨_, _, _, _, _, _, _, _, rfl, _⟩ := h; rfl) | (obtain ⟨_, _, _, _, _, _, _, _, _, rfl, _⟩ := h; rfl)) (fun cdv A outer s H vs Q E hr h => ⟨t_take K, ?_, pure_take vs H Q E h⟩)
  exact (pss_cons (ps_if (pt_cmpR op_lt (pv 1) pe_int (nomark _)) (pss_one (ps_ret pe_int)) pss_nil)
      (pss_cons (ps_if (pt_cmpR op_gt (pe_callB call_lenA (by rfl) T.n_len boot_len (pa_cons (pe_ix ix_1 (pv 0) pe_int (fun _ _ => rfl)) pa_nil)) pe_int (nomark _)) (pss_cons (ps_set (i := 5) sc_take.nd rfl (.inl rfl) (pe_ix ix_1 (pe_ix ix_1 (pv 0) pe_int (fun _ _ => rfl)) pe_int (fun _ _ => rfl)))
      (pss_cons (ps_set (i := 6) sc_take.nd rfl (.inl rfl) (pe_callTy call_listA (by rfl) T.n_list (by decide +kernel) (pa_cons (pe_slice sl_A (pe_ix ix_1 (pv 0) pe_int (fun _ _ => rfl)) (po_some pe_int) po_none) pa_nil)))
      (pss_cons (ps_if (pt_cmpR op_gt (pe_op op_fdivF (pv 5) (pv 1)) pe_int (nomark _)) (pss_one (ps_set (i := 6) sc_take.nd rfl (.inl rfl) (pe_op op_cat (pe_lst (pa_cons (pe_op op_fdivF (pv 5) (pv 1)) pa_nil)) (pv 6)))) pss_nil)
      (pss_cons (ps_asg (pv 6) (pg_sub (pv 0) pe_int set_list))
      (pss_one (ps_ret (pe_op op_mod (pe_callTy call_int1 (by rfl) T.n_int (by decide +kernel) (pa_cons (pv 5) pa_nil)) (pv 1)))))))) pss_nil)
      (pss_cons (ps_set (i := 2) sc_take.nd rfl (.inl rfl) (pe_ix ix_1 (pv 0) pe_int (fun _ _ => rfl)))
      (pss_cons (ps_asg (pe_op op_add (pv 2) pe_int) (pg_sub (pv 0) pe_int set_list))
      (pss_cons (ps_set (i := 3) sc_take.nd rfl (.inl rfl) (pe_ix ix_1 (pe_ix ix_1 (pv 0) pe_int (fun _ _ => rfl)) (pe_op op_mod (pe_callTy call_int1 (by rfl) T.n_int (by decide +kernel) (pa_cons (pe_op op_fdivF (pv 2) pe_int) pa_nil)) (pe_callB call_lenA (by rfl) T.n_len boot_len (pa_cons (pe_ix ix_1 (pv 0) pe_int (fun _ _ => rfl)) pa_nil))) (fun _ _ => rfl)))
      (pss_cons (ps_set (i := 4) sc_take.nd rfl (.inl rfl) (pe_op op_mod (pe_callTy call_int1 (by rfl) T.n_int (by decide +kernel) (pa_cons (pe_op op_add (pe_op op_add (pe_op op_mulI (pv 3) pe_int) (pe_op op_mulI (pv 2) pe_int)) pe_int) pa_nil)) pe_int))
      (pss_cons (ps_set (i := 4) sc_take.nd rfl (.inl rfl) (pe_op op_mod (pe_callTy call_int1 (by rfl) T.n_int (by decide +kernel) (pa_cons (pe_op op_add (pe_op op_add (pe_op op_mulI (pv 4) (pv 4)) (pe_op op_mulI (pv 2) pe_int)) pe_int) pa_nil)) pe_int))
      (pss_cons (ps_set (i := 4) sc_take.nd rfl (.inl rfl) (pe_op op_mod (pe_callTy call_int1 (by rfl) T.n_int (by decide +kernel) (pa_cons (pe_op op_add (pe_op op_add (pe_op op_mulI (pv 4) (pv 4)) (pv 3)) pe_int) pa_nil)) pe_int))
      (pss_one (ps_ret (pe_op op_mod (pe_callTy call_int1 (by rfl) T.n_int (by decide +kernel) (pa_cons (pe_op op_fdivF (pv 4) pe_int) pa_nil)) (pv 1))))))))))))
theorem ok_integer (T : Txt K mg a) : FnOk P w K mg base CX0 1 a.f_integer a.d_integer ["thing"] spInteger := by
  refine T.F_integer.ok sc_integer (fun vs H Q E h => by first | (obtain ⟨_, rfl, _⟩ := h; rfl) | (obtain ⟨_, _, rfl, _⟩ := h; rfl) | (obtain ⟨_, _, _, rfl, _⟩ := h; rfl) | (obtain ⟨_, _, _, _, rfl, _⟩ := h; rfl) | (obtain ⟨_, _, _, _, _, rfl, _⟩ := h; rfl) | (obtain ⟨_, _, _, _, _, _, rfl, _⟩ := h; rfl) | (obtain ⟨_, _, _, _, _, _, _, rfl, _⟩ := h; rfl) | (obtain ⟨_, _, _, _, _, _, _, _, rfl, _⟩ := h; rfl) | (obtain ⟨_, _, _, _, _, _, _, _, _, rfl, _⟩ := h; rfl)) (fun cdv A outer s H vs Q E hr h => ⟨t_integer K, ?_, pure_integer vs H Q E h⟩)
  exact (pss_one (ps_ret (pe_and (pe_callB call_isi (by rfl) T.n_isinstance (by decide +kernel) (pa_cons (pv 0) (pa_cons (pe_bltn (by rfl) T.n_int (by decide +kernel) rfl) pa_nil))) (pe_one (pe_not (pe_callB call_isi (by rfl) T.n_isinstance (by decide +kernel) (pa_cons (pv 0) (pa_cons (pe_bltn (by rfl) T.n_bool (by decide +kernel) rfl) pa_nil))))))))
theorem ok_common (T : Txt K mg a) : FnOk P w K mg base CX0 1 a.f_common a.d_common ["one", "two"] spCommon := by
  refine T.F_common.ok sc_common (fun vs H Q E h => by first | (obtain ⟨_, rfl, _⟩ := h; rfl) | (obtain ⟨_, _, rfl, _⟩ := h; rfl) | (obtain ⟨_, _, _, rfl, _⟩ := h; rfl) | (obtain ⟨_, _, _, _, rfl, _⟩ := h; rfl) | (obtain ⟨_, _, _, _, _, rfl, _⟩ := h; rfl) | (obtain ⟨_, _, _, _, _, _, rfl, _⟩ := h; rfl) | (obtain ⟨_, _, _, _, _, _, _, rfl, _⟩ := h; rfl) | (obtain ⟨_, _, _, _, _, _, _, _, rfl, _⟩ := h; rfl) | (obtain ⟨_, _, _, _, _, _, _, _, _, rfl, _⟩ := h; rfl)) (fun cdv A outer s H vs Q E hr h => ⟨t_common K, ?_, pure_common vs H Q E h⟩)
  exact (pss_cons (ps_set (i := 0) sc_common.nd rfl (.inl rfl) (pe_callB call_abs (by rfl) T.n_abs (by decide +kernel) (pa_cons (pv 0) pa_nil)))
      (pss_cons (ps_set (i := 1) sc_common.nd rfl (.inl rfl) (pe_callB call_abs (by rfl) T.n_abs (by decide +kernel) (pa_cons (pv 1) pa_nil)))
      (pss_cons (ps_for PassesOwn.never rfl (pi_range1 rfl T.n_range (pa_cons (pe_op op_add (pe_op op_mulI pe_int (pe_bits (pv 1))) pe_int) pa_nil)) (pg_name (i := 2) sc_common.nd rfl (.inl rfl)) (pss_cons (ps_if (pt_cmpR op_eq (pv 1) pe_int (nomark _)) (pss_one (ps_ret (pv 0))) pss_nil)
      (pss_cons (ps_set (i := 3) sc_common.nd rfl (.inl rfl) (pe_op op_mod (pe_callTy call_int1 (by rfl) T.n_int (by decide +kernel) (pa_cons (pv 0) pa_nil)) (pv 1)))
      (pss_cons (ps_set (i := 0) sc_common.nd rfl (.inl rfl) (pv 1))
      (pss_one (ps_set (i := 1) sc_common.nd rfl (.inl rfl) (pv 3)))))))
      (pss_one (ps_ret (pv 0))))))
theorem ok_init (T : Txt K mg a) : FnOk P w K mg base (L2.CX P w) 1 a.f_init a.d_init ["self", "top", "bottom"] (spInit a.C a.Z) := by
  refine T.F_init.ok sc_init (fun vs H Q E h => by first | (obtain ⟨_, rfl, _⟩ := h; rfl) | (obtain ⟨_, _, rfl, _⟩ := h; rfl) | (obtain ⟨_, _, _, rfl, _⟩ := h; rfl) | (obtain ⟨_, _, _, _, rfl, _⟩ := h; rfl) | (obtain ⟨_, _, _, _, _, rfl, _⟩ := h; rfl) | (obtain ⟨_, _, _, _, _, _, rfl, _⟩ := h; rfl) | (obtain ⟨_, _, _, _, _, _, _, rfl, _⟩ := h; rfl) | (obtain ⟨_, _, _, _, _, _, _, _, rfl, _⟩ := h; rfl) | (obtain ⟨_, _, _, _, _, _, _, _, _, rfl, _⟩ := h; rfl)) (fun cdv A outer s H vs Q E hr h => ⟨t_init K a.C a.Z E, ?_, pure_init ⟨T.isa_Ratio.cl, T.na_top, T.na_bottom⟩ vs H Q E h⟩)
  exact (pss_cons (ps_if (pt_cmpR op_eq (pv 2) pe_int (nomark _)) (pss_one (ps_raise (W := fun cls d _ H => E cls d H) (t := fun _ H Q => Q (.ref a.Z) none H) rfl (takes_of rfl rfl rfl rfl) (pmk_own PySem.F.excBase_ValueError T.xZ T.gZ T.kZ (raises_own T.bZ T.tZ) rfl))) pss_nil)
      (pss_cons (ps_set (i := 3) sc_init.nd rfl (.inl rfl) (pe_callBfun cr_gcd (by rfl) T.g_gcd (pa_cons (pv 1) (pa_cons (pv 2) pa_nil))))
      (pss_cons (ps_if (pt_cmpR op_lt (pv 2) pe_int (nomark _)) (pss_one (ps_set (i := 3) sc_init.nd rfl (.inl rfl) (pe_un un_neg (pv 3)))) pss_nil)
      (pss_cons (ps_fld (pv 0) (pe_op op_fdivF (pv 1) (pv 3)) rfl)
      (pss_one (ps_fld (pv 0) (pe_op op_fdivF (pv 2) (pv 3)) rfl))))))
theorem ok_add (T : Txt K mg a) : FnOk P w K mg base CX0 3 a.f_add a.d_add ["self", "other"] (spBin a.C addN) := by
  have G_init := ok_init (P := P) (w := w) (base := base) T
  refine T.F_add.ok sc_add (fun vs H Q E h => by first | (obtain ⟨_, rfl, _⟩ := h; rfl) | (obtain ⟨_, _, rfl, _⟩ := h; rfl) | (obtain ⟨_, _, _, rfl, _⟩ := h; rfl) | (obtain ⟨_, _, _, _, rfl, _⟩ := h; rfl) | (obtain ⟨_, _, _, _, _, rfl, _⟩ := h; rfl) | (obtain ⟨_, _, _, _, _, _, rfl, _⟩ := h; rfl) | (obtain ⟨_, _, _, _, _, _, _, rfl, _⟩ := h; rfl) | (obtain ⟨_, _, _, _, _, _, _, _, rfl, _⟩ := h; rfl) | (obtain ⟨_, _, _, _, _, _, _, _, _, rfl, _⟩ := h; rfl)) (fun cdv A outer s H vs Q E hr h => ⟨t_add K a.C a.Z E, ?_, pure_add vs H Q E h⟩)
  exact (pss_cons (ps_if (pt_val (pe_callB (call_isA T.isa_Ratio) (by rfl) T.n_isinstance (by decide +kernel) (pa_cons (pv 1) (pa_cons (pe_bltn (by rfl) T.n_int (by decide +kernel) rfl) pa_nil)))) (pss_one (ps_ret (pe_make T.mk_Ratio G_init (hr.mono (by decide)) rfl T.g_Ratio T.b_init .nil passL (pa_cons (pe_op op_add (pe_fldA (pv 0) T.isa_Ratio.cl T.na_top rfl) (pe_op op_mulI (pv 1) (pe_fldA (pv 0) T.isa_Ratio.cl T.na_bottom rfl))) (pa_cons (pe_fldA (pv 0) T.isa_Ratio.cl T.na_bottom rfl) pa_nil))))) pss_nil)
      (pss_cons (ps_if (pt_not (pt_val (pe_callB (call_isA T.isa_Ratio) (by rfl) T.n_isinstance (by decide +kernel) (pa_cons (pv 1) (pa_cons (pe_glob rfl T.g_Ratio rfl) pa_nil))))) (pss_one ps_never) pss_nil)
      (pss_one (ps_ret (pe_make T.mk_Ratio G_init (hr.mono (by decide)) rfl T.g_Ratio T.b_init .nil passL (pa_cons (pe_op op_add (pe_op op_mulI (pe_fldA (pv 0) T.isa_Ratio.cl T.na_top rfl) (pe_fldA (pv 1) T.isa_Ratio.cl T.na_bottom rfl)) (pe_op op_mulI (pe_fldA (pv 1) T.isa_Ratio.cl T.na_top rfl) (pe_fldA (pv 0) T.isa_Ratio.cl T.na_bottom rfl))) (pa_cons (pe_op op_mulI (pe_fldA (pv 0) T.isa_Ratio.cl T.na_bottom rfl) (pe_fldA (pv 1) T.isa_Ratio.cl T.na_bottom rfl)) pa_nil)))))))
theorem ok_sub (T : Txt K mg a) : FnOk P w K mg base CX0 3 a.f_sub a.d_sub ["self", "other"] (spBin a.C subN) := by
  have G_init := ok_init (P := P) (w := w) (base := base) T
  refine T.F_sub.ok sc_sub (fun vs H Q E h => by first | (obtain ⟨_, rfl, _⟩ := h; rfl) | (obtain ⟨_, _, rfl, _⟩ := h; rfl) | (obtain ⟨_, _, _, rfl, _⟩ := h; rfl) | (obtain ⟨_, _, _, _, rfl, _⟩ := h; rfl) | (obtain ⟨_, _, _, _, _, rfl, _⟩ := h; rfl) | (obtain ⟨_, _, _, _, _, _, rfl, _⟩ := h; rfl) | (obtain ⟨_, _, _, _, _, _, _, rfl, _⟩ := h; rfl) | (obtain ⟨_, _, _, _, _, _, _, _, rfl, _⟩ := h; rfl) | (obtain ⟨_, _, _, _, _, _, _, _, _, rfl, _⟩ := h; rfl)) (fun cdv A outer s H vs Q E hr h => ⟨t_sub K a.C a.Z E, ?_, pure_sub vs H Q E h⟩)
  exact (pss_cons (ps_if (pt_val (pe_callB (call_isA T.isa_Ratio) (by rfl) T.n_isinstance (by decide +kernel) (pa_cons (pv 1) (pa_cons (pe_bltn (by rfl) T.n_int (by decide +kernel) rfl) pa_nil)))) (pss_one (ps_ret (pe_make T.mk_Ratio G_init (hr.mono (by decide)) rfl T.g_Ratio T.b_init .nil passL (pa_cons (pe_op op_sub (pe_fldA (pv 0) T.isa_Ratio.cl T.na_top rfl) (pe_op op_mulI (pv 1) (pe_fldA (pv 0) T.isa_Ratio.cl T.na_bottom rfl))) (pa_cons (pe_fldA (pv 0) T.isa_Ratio.cl T.na_bottom rfl) pa_nil))))) pss_nil)
      (pss_cons (ps_if (pt_not (pt_val (pe_callB (call_isA T.isa_Ratio) (by rfl) T.n_isinstance (by decide +kernel) (pa_cons (pv 1) (pa_cons (pe_glob rfl T.g_Ratio rfl) pa_nil))))) (pss_one ps_never) pss_nil)
      (pss_one (ps_ret (pe_make T.mk_Ratio G_init (hr.mono (by decide)) rfl T.g_Ratio T.b_init .nil passL (pa_cons (pe_op op_sub (pe_op op_mulI (pe_fldA (pv 0) T.isa_Ratio.cl T.na_top rfl) (pe_fldA (pv 1) T.isa_Ratio.cl T.na_bottom rfl)) (pe_op op_mulI (pe_fldA (pv 1) T.isa_Ratio.cl T.na_top rfl) (pe_fldA (pv 0) T.isa_Ratio.cl T.na_bottom rfl))) (pa_cons (pe_op op_mulI (pe_fldA (pv 0) T.isa_Ratio.cl T.na_bottom rfl) (pe_fldA (pv 1) T.isa_Ratio.cl T.na_bottom rfl)) pa_nil)))))))
theorem ok_mul (T : Txt K mg a) : FnOk P w K mg base CX0 3 a.f_mul a.d_mul ["self", "other"] (spBin a.C mulN) := by
  have G_init := ok_init (P := P) (w := w) (base := base) T
  refine T.F_mul.ok sc_mul (fun vs H Q E h => by first | (obtain ⟨_, rfl, _⟩ := h; rfl) | (obtain ⟨_, _, rfl, _⟩ := h; rfl) | (obtain ⟨_, _, _, rfl, _⟩ := h; rfl) | (obtain ⟨_, _, _, _, rfl, _⟩ := h; rfl) | (obtain ⟨_, _, _, _, _, rfl, _⟩ := h; rfl) | (obtain ⟨_, _, _, _, _, _, rfl, _⟩ := h; rfl) | (obtain ⟨_, _, _, _, _, _, _, rfl, _⟩ := h; rfl) | (obtain ⟨_, _, _, _, _, _, _, _, rfl, _⟩ := h; rfl) | (obtain ⟨_, _, _, _, _, _, _, _, _, rfl, _⟩ := h; rfl)) (fun cdv A outer s H vs Q E hr h => ⟨t_mul K a.C a.Z E, ?_, pure_mul vs H Q E h⟩)
  exact (pss_cons (ps_if (pt_val (pe_callB (call_isA T.isa_Ratio) (by rfl) T.n_isinstance (by decide +kernel) (pa_cons (pv 1) (pa_cons (pe_bltn (by rfl) T.n_int (by decide +kernel) rfl) pa_nil)))) (pss_one (ps_ret (pe_make T.mk_Ratio G_init (hr.mono (by decide)) rfl T.g_Ratio T.b_init .nil passL (pa_cons (pe_op op_mulI (pe_fldA (pv 0) T.isa_Ratio.cl T.na_top rfl) (pv 1)) (pa_cons (pe_fldA (pv 0) T.isa_Ratio.cl T.na_bottom rfl) pa_nil))))) pss_nil)
      (pss_cons (ps_if (pt_not (pt_val (pe_callB (call_isA T.isa_Ratio) (by rfl) T.n_isinstance (by decide +kernel) (pa_cons (pv 1) (pa_cons (pe_glob rfl T.g_Ratio rfl) pa_nil))))) (pss_one ps_never) pss_nil)
      (pss_one (ps_ret (pe_make T.mk_Ratio G_init (hr.mono (by decide)) rfl T.g_Ratio T.b_init .nil passL (pa_cons (pe_op op_mulI (pe_fldA (pv 0) T.isa_Ratio.cl T.na_top rfl) (pe_fldA (pv 1) T.isa_Ratio.cl T.na_top rfl)) (pa_cons (pe_op op_mulI (pe_fldA (pv 0) T.isa_Ratio.cl T.na_bottom rfl) (pe_fldA (pv 1) T.isa_Ratio.cl T.na_bottom rfl)) pa_nil)))))))
theorem ok_neg (T : Txt K mg a) : FnOk P w K mg base CX0 3 a.f_neg a.d_neg ["self"] (spUn a.C (fun t => -t)) := by
  have G_init := ok_init (P := P) (w := w) (base := base) T
  refine T.F_neg.ok sc_neg (fun vs H Q E h => by first | (obtain ⟨_, rfl, _⟩ := h; rfl) | (obtain ⟨_, _, rfl, _⟩ := h; rfl) | (obtain ⟨_, _, _, rfl, _⟩ := h; rfl) | (obtain ⟨_, _, _, _, rfl, _⟩ := h; rfl) | (obtain ⟨_, _, _, _, _, rfl, _⟩ := h; rfl) | (obtain ⟨_, _, _, _, _, _, rfl, _⟩ := h; rfl) | (obtain ⟨_, _, _, _, _, _, _, rfl, _⟩ := h; rfl) | (obtain ⟨_, _, _, _, _, _, _, _, rfl, _⟩ := h; rfl) | (obtain ⟨_, _, _, _, _, _, _, _, _, rfl, _⟩ := h; rfl)) (fun cdv A outer s H vs Q E hr h => ⟨t_neg K a.C a.Z E, ?_, pure_neg vs H Q E h⟩)
  exact (pss_one (ps_ret (pe_make T.mk_Ratio G_init (hr.mono (by decide)) rfl T.g_Ratio T.b_init .nil passL (pa_cons (pe_un un_neg (pe_fldA (pv 0) T.isa_Ratio.cl T.na_top rfl)) (pa_cons (pe_fldA (pv 0) T.isa_Ratio.cl T.na_bottom rfl) pa_nil)))))
theorem ok_radd (T : Txt K mg a) : FnOk P w K mg base CX0 4 a.f_radd a.d_radd ["self", "other"] (spRef a.C raddN) := by
  have G_add := ok_add (P := P) (w := w) (base := base) T
  refine T.F_radd.ok sc_radd (fun vs H Q E h => by first | (obtain ⟨_, rfl, _⟩ := h; rfl) | (obtain ⟨_, _, rfl, _⟩ := h; rfl) | (obtain ⟨_, _, _, rfl, _⟩ := h; rfl) | (obtain ⟨_, _, _, _, rfl, _⟩ := h; rfl) | (obtain ⟨_, _, _, _, _, rfl, _⟩ := h; rfl) | (obtain ⟨_, _, _, _, _, _, rfl, _⟩ := h; rfl) | (obtain ⟨_, _, _, _, _, _, _, rfl, _⟩ := h; rfl) | (obtain ⟨_, _, _, _, _, _, _, _, rfl, _⟩ := h; rfl) | (obtain ⟨_, _, _, _, _, _, _, _, _, rfl, _⟩ := h; rfl)) (fun cdv A outer s H vs Q E hr h => ⟨t_radd K a.C a.Z E, ?_, pure_radd vs H Q E h⟩)
  exact (pss_one (ps_ret (pe_op (op_ownI T.o_add T.i_add G_add (hr.mono (by decide)) T.b_add pass0) (pv 0) (pv 1))))
theorem ok_rsub (T : Txt K mg a) : FnOk P w K mg base CX0 4 a.f_rsub a.d_rsub ["self", "other"] (spRef a.C rsubN) := by
  have G_add := ok_add (P := P) (w := w) (base := base) T
  have G_neg := ok_neg (P := P) (w := w) (base := base) T
  refine T.F_rsub.ok sc_rsub (fun vs H Q E h => by first | (obtain ⟨_, rfl, _⟩ := h; rfl) | (obtain ⟨_, _, rfl, _⟩ := h; rfl) | (obtain ⟨_, _, _, rfl, _⟩ := h; rfl) | (obtain ⟨_, _, _, _, rfl, _⟩ := h; rfl) | (obtain ⟨_, _, _, _, _, rfl, _⟩ := h; rfl) | (obtain ⟨_, _, _, _, _, _, rfl, _⟩ := h; rfl) | (obtain ⟨_, _, _, _, _, _, _, rfl, _⟩ := h; rfl) | (obtain ⟨_, _, _, _, _, _, _, _, rfl, _⟩ := h; rfl) | (obtain ⟨_, _, _, _, _, _, _, _, _, rfl, _⟩ := h; rfl)) (fun cdv A outer s H vs Q E hr h => ⟨t_rsub K a.C a.Z E, ?_, pure_rsub vs H Q E h⟩)
  exact (pss_one (ps_ret (pe_op (op_ownI T.o_add T.i_add G_add (hr.mono (by decide)) T.b_add pass0) (pe_un (un_own T.o_neg T.i_neg G_neg (hr.mono (by decide)) T.b_neg pass0) (pv 0)) (pv 1))))
theorem ok_rmul (T : Txt K mg a) : FnOk P w K mg base CX0 4 a.f_rmul a.d_rmul ["self", "other"] (spRef a.C rmulN) := by
  have G_mul := ok_mul (P := P) (w := w) (base := base) T
  refine T.F_rmul.ok sc_rmul (fun vs H Q E h => by first | (obtain ⟨_, rfl, _⟩ := h; rfl) | (obtain ⟨_, _, rfl, _⟩ := h; rfl) | (obtain ⟨_, _, _, rfl, _⟩ := h; rfl) | (obtain ⟨_, _, _, _, rfl, _⟩ := h; rfl) | (obtain ⟨_, _, _, _, _, rfl, _⟩ := h; rfl) | (obtain ⟨_, _, _, _, _, _, rfl, _⟩ := h; rfl) | (obtain ⟨_, _, _, _, _, _, _, rfl, _⟩ := h; rfl) | (obtain ⟨_, _, _, _, _, _, _, _, rfl, _⟩ := h; rfl) | (obtain ⟨_, _, _, _, _, _, _, _, _, rfl, _⟩ := h; rfl)) (fun cdv A outer s H vs Q E hr h => ⟨t_rmul K a.C a.Z E, ?_, pure_rmul vs H Q E h⟩)
  exact (pss_one (ps_ret (pe_op (op_ownI T.o_mul T.i_mul G_mul (hr.mono (by decide)) T.b_mul pass0) (pv 0) (pv 1))))
theorem ok_abs (T : Txt K mg a) : FnOk P w K mg base CX0 3 a.f_abs a.d_abs ["self"] (spUn a.C (fun t => if t < 0 then -t else t)) := by
  have G_init := ok_init (P := P) (w := w) (base := base) T
  refine T.F_abs.ok sc_abs (fun vs H Q E h => by first | (obtain ⟨_, rfl, _⟩ := h; rfl) | (obtain ⟨_, _, rfl, _⟩ := h; rfl) | (obtain ⟨_, _, _, rfl, _⟩ := h; rfl) | (obtain ⟨_, _, _, _, rfl, _⟩ := h; rfl) | (obtain ⟨_, _, _, _, _, rfl, _⟩ := h; rfl) | (obtain ⟨_, _, _, _, _, _, rfl, _⟩ := h; rfl) | (obtain ⟨_, _, _, _, _, _, _, rfl, _⟩ := h; rfl) | (obtain ⟨_, _, _, _, _, _, _, _, rfl, _⟩ := h; rfl) | (obtain ⟨_, _, _, _, _, _, _, _, _, rfl, _⟩ := h; rfl)) (fun cdv A outer s H vs Q E hr h => ⟨t_abs K a.C a.Z E, ?_, pure_abs vs H Q E h⟩)
  exact (pss_one (ps_ret (pe_make T.mk_Ratio G_init (hr.mono (by decide)) rfl T.g_Ratio T.b_init .nil passL (pa_cons (pe_callB call_abs (by rfl) T.n_abs (by decide +kernel) (pa_cons (pe_fldA (pv 0) T.isa_Ratio.cl T.na_top rfl) pa_nil)) (pa_cons (pe_fldA (pv 0) T.isa_Ratio.cl T.na_bottom rfl) pa_nil)))))
theorem ok_eq (T : Txt K mg a) : FnOk P w K mg base CX0 1 a.f_eq a.d_eq ["self", "other"] (spEq a.C) := by
  refine T.F_eq.ok sc_eq (fun vs H Q E h => by first | (obtain ⟨_, rfl, _⟩ := h; rfl) | (obtain ⟨_, _, rfl, _⟩ := h; rfl) | (obtain ⟨_, _, _, rfl, _⟩ := h; rfl) | (obtain ⟨_, _, _, _, rfl, _⟩ := h; rfl) | (obtain ⟨_, _, _, _, _, rfl, _⟩ := h; rfl) | (obtain ⟨_, _, _, _, _, _, rfl, _⟩ := h; rfl) | (obtain ⟨_, _, _, _, _, _, _, rfl, _⟩ := h; rfl) | (obtain ⟨_, _, _, _, _, _, _, _, rfl, _⟩ := h; rfl) | (obtain ⟨_, _, _, _, _, _, _, _, _, rfl, _⟩ := h; rfl)) (fun cdv A outer s H vs Q E hr h => ⟨t_eq K a.C a.Z E, ?_, pure_eq vs H Q E h⟩)
  exact (pss_cons (ps_if (pt_val (pe_callB (call_isA T.isa_Ratio) (by rfl) T.n_isinstance (by decide +kernel) (pa_cons (pv 1) (pa_cons (pe_bltn (by rfl) T.n_int (by decide +kernel) rfl) pa_nil)))) (pss_one (ps_ret (pe_and (pe_cmpR op_eq (pe_fldA (pv 0) T.isa_Ratio.cl T.na_bottom rfl) pe_int (nomark _)) (pe_one (pe_cmpR op_eq (pe_fldA (pv 0) T.isa_Ratio.cl T.na_top rfl) (pv 1) (nomark _)))))) pss_nil)
      (pss_one (ps_ret (pe_and (pe_callB (call_isA T.isa_Ratio) (by rfl) T.n_isinstance (by decide +kernel) (pa_cons (pv 1) (pa_cons (pe_glob rfl T.g_Ratio rfl) pa_nil))) (pe_and (pe_cmpR op_eq (pe_fldA (pv 0) T.isa_Ratio.cl T.na_top rfl) (pe_fldA (pv 1) T.isa_Ratio.cl T.na_top rfl) (nomark _)) (pe_one (pe_cmpR op_eq (pe_fldA (pv 0) T.isa_Ratio.cl T.na_bottom rfl) (pe_fldA (pv 1) T.isa_Ratio.cl T.na_bottom rfl) (nomark _))))))))
theorem ok_bool (T : Txt K mg a) : FnOk P w K mg base CX0 1 a.f_bool a.d_bool ["self"] (spBool a.C) := by
  refine T.F_bool.ok sc_bool (fun vs H Q E h => by first | (obtain ⟨_, rfl, _⟩ := h; rfl) | (obtain ⟨_, _, rfl, _⟩ := h; rfl) | (obtain ⟨_, _, _, rfl, _⟩ := h; rfl) | (obtain ⟨_, _, _, _, rfl, _⟩ := h; rfl) | (obtain ⟨_, _, _, _, _, rfl, _⟩ := h; rfl) | (obtain ⟨_, _, _, _, _, _, rfl, _⟩ := h; rfl) | (obtain ⟨_, _, _, _, _, _, _, rfl, _⟩ := h; rfl) | (obtain ⟨_, _, _, _, _, _, _, _, rfl, _⟩ := h; rfl) | (obtain ⟨_, _, _, _, _, _, _, _, _, rfl, _⟩ := h; rfl)) (fun cdv A outer s H vs Q E hr h => ⟨t_bool K a.C a.Z E, ?_, pure_bool vs H Q E h⟩)
  exact (pss_one (ps_ret (pe_callTy call_bool1 (by rfl) T.n_bool (by decide +kernel) (pa_cons (pe_fldA (pv 0) T.isa_Ratio.cl T.na_top rfl) pa_nil))))
theorem ok_over (T : Txt K mg a) : FnOk P w K mg base (L2.CX P w) 3 a.f_over a.d_over ["self", "b"] (spOver a.C a.Z) := by
  have G_init := ok_init (P := P) (w := w) (base := base) T
  refine T.F_over.okX sc_over (fun vs H Q E h => by first | (obtain ⟨_, rfl, _⟩ := h; rfl) | (obtain ⟨_, _, rfl, _⟩ := h; rfl) | (obtain ⟨_, _, _, rfl, _⟩ := h; rfl) | (obtain ⟨_, _, _, _, rfl, _⟩ := h; rfl) | (obtain ⟨_, _, _, _, _, rfl, _⟩ := h; rfl) | (obtain ⟨_, _, _, _, _, _, rfl, _⟩ := h; rfl) | (obtain ⟨_, _, _, _, _, _, _, rfl, _⟩ := h; rfl) | (obtain ⟨_, _, _, _, _, _, _, _, rfl, _⟩ := h; rfl) | (obtain ⟨_, _, _, _, _, _, _, _, _, rfl, _⟩ := h; rfl)) (fun cdv A outer s H vs Q E hr h => ⟨t_over K a.C a.Z E, ?_, pure_over vs H Q E h⟩)
  exact (pss_cons (ps_if (pt_val (pe_callB (call_isA T.isa_Ratio) (by rfl) T.n_isinstance (by decide +kernel) (pa_cons (pv 1) (pa_cons (pe_bltn (by rfl) T.n_int (by decide +kernel) rfl) pa_nil)))) (pss_one (ps_ret (pe_make T.mk_Ratio G_init (hr.mono (by decide)) rfl T.g_Ratio T.b_init .nil (passes_call (takes_of rfl rfl rfl rfl) (fun _ _ _ _ h => h)) (pa_cons (pe_fldA (pv 0) T.isa_Ratio.cl T.na_top rfl) (pa_cons (pe_op op_mulI (pe_fldA (pv 0) T.isa_Ratio.cl T.na_bottom rfl) (pv 1)) pa_nil))))) pss_nil)
      (pss_one (ps_ret (pe_make T.mk_Ratio G_init (hr.mono (by decide)) rfl T.g_Ratio T.b_init .nil (passes_call (takes_of rfl rfl rfl rfl) (fun _ _ _ _ h => h)) (pa_cons (pe_op op_mulI (pe_fldA (pv 0) T.isa_Ratio.cl T.na_top rfl) (pe_fldA (pv 1) T.isa_Ratio.cl T.na_bottom rfl)) (pa_cons (pe_op op_mulI (pe_fldA (pv 0) T.isa_Ratio.cl T.na_bottom rfl) (pe_fldA (pv 1) T.isa_Ratio.cl T.na_top rfl)) pa_nil))))))
theorem ok_sign (T : Txt K mg a) : FnOk P w K mg base CX0 1 a.f_sign a.d_sign ["self"] (spSign a.C) := by
  refine T.F_sign.ok sc_sign (fun vs H Q E h => by first | (obtain ⟨_, rfl, _⟩ := h; rfl) | (obtain ⟨_, _, rfl, _⟩ := h; rfl) | (obtain ⟨_, _, _, rfl, _⟩ := h; rfl) | (obtain ⟨_, _, _, _, rfl, _⟩ := h; rfl) | (obtain ⟨_, _, _, _, _, rfl, _⟩ := h; rfl) | (obtain ⟨_, _, _, _, _, _, rfl, _⟩ := h; rfl) | (obtain ⟨_, _, _, _, _, _, _, rfl, _⟩ := h; rfl) | (obtain ⟨_, _, _, _, _, _, _, _, rfl, _⟩ := h; rfl) | (obtain ⟨_, _, _, _, _, _, _, _, _, rfl, _⟩ := h; rfl)) (fun cdv A outer s H vs Q E hr h => ⟨t_sign K a.C a.Z E, ?_, pure_sign vs H Q E h⟩)
  exact (pss_cons (ps_if (pt_cmpR op_lt (pe_fldA (pv 0) T.isa_Ratio.cl T.na_top rfl) pe_int (nomark _)) (pss_one (ps_ret (pe_un un_neg pe_int))) pss_nil)
      (pss_one (ps_ret (pe_ifExp (pt_cmpR op_gt (pe_fldA (pv 0) T.isa_Ratio.cl T.na_top rfl) pe_int (nomark _)) pe_int pe_int))))
theorem ok_compare (T : Txt K mg a) : FnOk P w K mg base CX0 4 a.f_compare a.d_compare ["first", "second"] (spCompare a.C) := by
  have G_sign := ok_sign (P := P) (w := w) (base := base) T
  have G_sub := ok_sub (P := P) (w := w) (base := base) T
  refine T.F_compare.ok sc_compare (fun vs H Q E h => by first | (obtain ⟨_, rfl, _⟩ := h; rfl) | (obtain ⟨_, _, rfl, _⟩ := h; rfl) | (obtain ⟨_, _, _, rfl, _⟩ := h; rfl) | (obtain ⟨_, _, _, _, rfl, _⟩ := h; rfl) | (obtain ⟨_, _, _, _, _, rfl, _⟩ := h; rfl) | (obtain ⟨_, _, _, _, _, _, rfl, _⟩ := h; rfl) | (obtain ⟨_, _, _, _, _, _, _, rfl, _⟩ := h; rfl) | (obtain ⟨_, _, _, _, _, _, _, _, rfl, _⟩ := h; rfl) | (obtain ⟨_, _, _, _, _, _, _, _, _, rfl, _⟩ := h; rfl)) (fun cdv A outer s H vs Q E hr h => ⟨t_compare K a.C a.Z E, ?_, pure_compare vs H Q E h⟩)
  exact (pss_one (ps_ret (pe_meth0 (pe_op (op_own2 T.o_sub G_sub (hr.mono (by decide)) T.b_sub pass0) (pv 0) (pv 1)) T.isa_Ratio.cl T.m_sign G_sign (hr.mono (by decide)) T.b_sign .nil pass0)))
theorem ok_size (T : Txt K mg a) : FnOk P w K mg base CX0 2 a.f_size a.d_size ["pool"] spSize := by
  have G_take := ok_take (P := P) (w := w) (base := base) T
  refine T.F_size.ok sc_size (fun vs H Q E h => by first | (obtain ⟨_, rfl, _⟩ := h; rfl) | (obtain ⟨_, _, rfl, _⟩ := h; rfl) | (obtain ⟨_, _, _, rfl, _⟩ := h; rfl) | (obtain ⟨_, _, _, _, rfl, _⟩ := h; rfl) | (obtain ⟨_, _, _, _, _, rfl, _⟩ := h; rfl) | (obtain ⟨_, _, _, _, _, _, rfl, _⟩ := h; rfl) | (obtain ⟨_, _, _, _, _, _, _, rfl, _⟩ := h; rfl) | (obtain ⟨_, _, _, _, _, _, _, _, rfl, _⟩ := h; rfl) | (obtain ⟨_, _, _, _, _, _, _, _, _, rfl, _⟩ := h; rfl)) (fun cdv A outer s H vs Q E hr h => ⟨t_size K a.C a.Z E, ?_, pure_size vs H Q E h⟩)
  exact (pss_cons (ps_set (i := 1) sc_size.nd rfl (.inl rfl) (pe_call G_take (hr.mono (by decide)) rfl T.g_take T.k_take T.b_take .nil pass0 (pa_cons (pv 0) (pa_cons pe_int pa_nil))))
      (pss_cons (ps_if (pt_cmpR op_eq (pv 1) pe_int (nomark _)) (pss_one (ps_ret (pe_call G_take (hr.mono (by decide)) rfl T.g_take T.k_take T.b_take .nil pass0 (pa_cons (pv 0) (pa_cons pe_int pa_nil))))) pss_nil)
      (pss_cons (ps_if (pt_cmpR op_eq (pv 1) pe_int (nomark _)) (pss_one (ps_ret (pe_call G_take (hr.mono (by decide)) rfl T.g_take T.k_take T.b_take .nil pass0 (pa_cons (pv 0) (pa_cons pe_int pa_nil))))) pss_nil)
      (pss_cons (ps_if (pt_cmpR op_eq (pv 1) pe_int (nomark _)) (pss_one (ps_ret (pe_call G_take (hr.mono (by decide)) rfl T.g_take T.k_take T.b_take .nil pass0 (pa_cons (pv 0) (pa_cons (pe_op op_pow pe_int pe_int) pa_nil))))) pss_nil)
      (pss_cons (ps_set (i := 2) sc_size.nd rfl (.inl rfl) pe_int)
      (pss_cons (ps_for PassesOwn.never rfl (pi_range1 rfl T.n_range (pa_cons pe_int pa_nil)) (pg_name (i := 3) sc_size.nd rfl (.inl rfl)) (pss_one (ps_set (i := 2) sc_size.nd rfl (.inl rfl) (pe_op op_add (pe_op op_mulI (pv 2) (pe_op op_pow pe_int pe_int)) (pe_call G_take (hr.mono (by decide)) rfl T.g_take T.k_take T.b_take .nil pass0 (pa_cons (pv 0) (pa_cons (pe_op op_pow pe_int pe_int) pa_nil)))))))
      (pss_one (ps_ret (pe_op op_mod (pe_callTy call_int1 (by rfl) T.n_int (by decide +kernel) (pa_cons (pv 2) pa_nil)) (pe_op op_pow pe_int pe_int))))))))))
theorem ok_fraction (T : Txt K mg a) : FnOk P w K mg base CX0 3 a.f_fraction a.d_fraction ["pool"] spFraction := by
  have G_size := ok_size (P := P) (w := w) (base := base) T
  have G_take := ok_take (P := P) (w := w) (base := base) T
  refine T.F_fraction.ok sc_fraction (fun vs H Q E h => by first | (obtain ⟨_, rfl, _⟩ := h; rfl) | (obtain ⟨_, _, rfl, _⟩ := h; rfl) | (obtain ⟨_, _, _, rfl, _⟩ := h; rfl) | (obtain ⟨_, _, _, _, rfl, _⟩ := h; rfl) | (obtain ⟨_, _, _, _, _, rfl, _⟩ := h; rfl) | (obtain ⟨_, _, _, _, _, _, rfl, _⟩ := h; rfl) | (obtain ⟨_, _, _, _, _, _, _, rfl, _⟩ := h; rfl) | (obtain ⟨_, _, _, _, _, _, _, _, rfl, _⟩ := h; rfl) | (obtain ⟨_, _, _, _, _, _, _, _, _, rfl, _⟩ := h; rfl)) (fun cdv A outer s H vs Q E hr h => ⟨t_fraction K a.C a.Z E, ?_, pure_fraction vs H Q E h⟩)
  exact (pss_cons (ps_set (i := 1) sc_fraction.nd rfl (.inl rfl) (pe_call G_size (hr.mono (by decide)) rfl T.g_size T.k_size T.b_size .nil pass0 (pa_cons (pv 0) pa_nil)))
      (pss_cons (ps_set (i := 2) sc_fraction.nd rfl (.inl rfl) (pe_callB (call_max2 rfl) (by rfl) T.n_max (by decide +kernel) (pa_cons pe_int (pa_cons (pe_call G_size (hr.mono (by decide)) rfl T.g_size T.k_size T.b_size .nil pass0 (pa_cons (pv 0) pa_nil)) pa_nil))))
      (pss_cons (ps_set (i := 3) sc_fraction.nd rfl (.inl rfl) (pe_call G_take (hr.mono (by decide)) rfl T.g_take T.k_take T.b_take .nil pass0 (pa_cons (pv 0) (pa_cons pe_int pa_nil))))
      (pss_cons (ps_if (pt_cmpR op_eq (pv 3) pe_int (nomark _)) (pss_one (ps_set (i := 1) sc_fraction.nd rfl (.inl rfl) pe_int)) pss_nil)
      (pss_cons (ps_if (PW.pt (pw_or (pt_cmpR op_eq (pv 3) pe_int (nomark _)) (pw_or1 (pt_cmpR op_eq (pv 3) pe_int (nomark _))))) (pss_cons (ps_set (i := 4) sc_fraction.nd rfl (.inl rfl) (pe_callB (call_max2 rfl) (by rfl) T.n_max (by decide +kernel) (pa_cons pe_int (pa_cons (pe_op op_mod (pe_callTy call_int1 (by rfl) T.n_int (by decide +kernel) (pa_cons (pe_call G_size (hr.mono (by decide)) rfl T.g_size T.k_size T.b_size .nil pass0 (pa_cons (pv 0) pa_nil)) pa_nil)) (pe_op op_pow pe_int pe_int)) pa_nil))))
      (pss_cons (ps_set (i := 1) sc_fraction.nd rfl (.inl rfl) (pe_op op_mulI (pe_op op_mod (pe_callTy call_int1 (by rfl) T.n_int (by decide +kernel) (pa_cons (pv 1) pa_nil)) (pe_op op_pow pe_int pe_int)) (pv 4)))
      (pss_one (ps_set (i := 2) sc_fraction.nd rfl (.inl rfl) (pe_op op_mulI (pe_callB (call_max2 rfl) (by rfl) T.n_max (by decide +kernel) (pa_cons pe_int (pa_cons (pe_op op_mod (pe_callTy call_int1 (by rfl) T.n_int (by decide +kernel) (pa_cons (pv 2) pa_nil)) (pe_op op_pow pe_int pe_int)) pa_nil))) (pv 4)))))) pss_nil)
      (pss_cons (ps_if (pt_cmpR op_eq (pv 3) pe_int (nomark _)) (pss_one (ps_set (i := 2) sc_fraction.nd rfl (.inl rfl) pe_int)) pss_nil)
      (pss_cons (ps_if (pt_cmpR op_eq (pe_call G_take (hr.mono (by decide)) rfl T.g_take T.k_take T.b_take .nil pass0 (pa_cons (pv 0) (pa_cons pe_int pa_nil))) pe_int (nomark _)) (pss_one (ps_set (i := 1) sc_fraction.nd rfl (.inl rfl) (pe_un un_neg (pv 1)))) pss_nil)
      (pss_cons (ps_if (pt_cmpR op_eq (pe_call G_take (hr.mono (by decide)) rfl T.g_take T.k_take T.b_take .nil pass0 (pa_cons (pv 0) (pa_cons pe_int pa_nil))) pe_int (nomark _)) (pss_one (ps_set (i := 2) sc_fraction.nd rfl (.inl rfl) (pe_un un_neg (pv 2)))) pss_nil)
      (pss_one (ps_ret (pe_tup (pa_cons (pv 1) (pa_cons (pv 2) pa_nil)))))))))))))
theorem ok_second (T : Txt K mg a) : FnOk P w K mg base CX0 4 a.f_second a.d_second ["pool", "one"] spSecond := by
  have G_fraction := ok_fraction (P := P) (w := w) (base := base) T
  have G_take := ok_take (P := P) (w := w) (base := base) T
  refine T.F_second.ok sc_second (fun vs H Q E h => by first | (obtain ⟨_, rfl, _⟩ := h; rfl) | (obtain ⟨_, _, rfl, _⟩ := h; rfl) | (obtain ⟨_, _, _, rfl, _⟩ := h; rfl) | (obtain ⟨_, _, _, _, rfl, _⟩ := h; rfl) | (obtain ⟨_, _, _, _, _, rfl, _⟩ := h; rfl) | (obtain ⟨_, _, _, _, _, _, rfl, _⟩ := h; rfl) | (obtain ⟨_, _, _, _, _, _, _, rfl, _⟩ := h; rfl) | (obtain ⟨_, _, _, _, _, _, _, _, rfl, _⟩ := h; rfl) | (obtain ⟨_, _, _, _, _, _, _, _, _, rfl, _⟩ := h; rfl)) (fun cdv A outer s H vs Q E hr h => ⟨t_second K a.C a.Z E, ?_, pure_second vs H Q E h⟩)
  exact (pss_cons (ps_set (i := 2) sc_second.nd rfl (.inl rfl) (pe_call G_take (hr.mono (by decide)) rfl T.g_take T.k_take T.b_take .nil pass0 (pa_cons (pv 0) (pa_cons pe_int pa_nil))))
      (pss_cons (ps_if (PW.pt (pw_and (pt_cmpR op_lt (pv 2) pe_int (nomark _)) (pw_and (pt_cmpR op_lt (pe_callB call_abs (by rfl) T.n_abs (by decide +kernel) (pa_cons (pe_ix ix_1 (pv 1) pe_int (fun _ _ => rfl)) pa_nil)) (pe_op op_pow pe_int pe_int) (nomark _)) (pw_and1 (pt_cmpR op_lt (pe_callB call_abs (by rfl) T.n_abs (by decide +kernel) (pa_cons (pe_ix ix_1 (pv 1) pe_int (fun _ _ => rfl)) pa_nil)) (pe_op op_pow pe_int pe_int) (nomark _)))))) (pss_cons (ps_set (i := 3) sc_second.nd rfl (.inl rfl) (pe_op op_add pe_int (pe_call G_take (hr.mono (by decide)) rfl T.g_take T.k_take T.b_take .nil pass0 (pa_cons (pv 0) (pa_cons pe_int pa_nil)))))
      (pss_one (ps_ret (pe_tup (pa_cons (pe_op op_sub (pe_op op_add (pe_op op_mulI (pe_ix ix_1 (pv 1) pe_int (fun _ _ => rfl)) (pv 3)) (pe_call G_take (hr.mono (by decide)) rfl T.g_take T.k_take T.b_take .nil pass0 (pa_cons (pv 0) (pa_cons pe_int pa_nil)))) pe_int) (pa_cons (pe_op op_mulI (pe_ix ix_1 (pv 1) pe_int (fun _ _ => rfl)) (pv 3)) pa_nil)))))) pss_nil)
      (pss_cons (ps_if (pt_cmpR op_lt (pv 2) pe_int (nomark _)) (pss_one (ps_ret (pe_tup (pa_cons (pe_un un_neg (pe_ix ix_1 (pv 1) pe_int (fun _ _ => rfl))) (pa_cons (pe_un un_neg (pe_ix ix_1 (pv 1) pe_int (fun _ _ => rfl))) pa_nil))))) pss_nil)
      (pss_cons (ps_if (pt_cmpR op_eq (pv 2) pe_int (nomark _)) (pss_one (ps_ret (pe_tup (pa_cons (pe_un un_neg (pe_ix ix_1 (pv 1) pe_int (fun _ _ => rfl))) (pa_cons (pe_ix ix_1 (pv 1) pe_int (fun _ _ => rfl)) pa_nil))))) pss_nil)
      (pss_cons (ps_if (PW.pt (pw_and (pt_cmpR op_eq (pv 2) pe_int (nomark _)) (pw_and1 (pt_cmpR op_ne (pe_ix ix_1 (pv 1) pe_int (fun _ _ => rfl)) pe_int (nomark _))))) (pss_one (ps_ret (pe_tup (pa_cons (pe_ix ix_1 (pv 1) pe_int (fun _ _ => rfl)) (pa_cons (pe_ix ix_1 (pv 1) pe_int (fun _ _ => rfl)) pa_nil))))) pss_nil)
      (pss_one (ps_ret (pe_call G_fraction (hr.mono (by decide)) rfl T.g_fraction T.k_fraction T.b_fraction .nil pass0 (pa_cons (pv 0) pa_nil)))))))))
theorem ok_beside (T : Txt K mg a) : FnOk P w K mg base CX0 3 a.f_beside a.d_beside ["pool", "one"] spBeside := by
  have G_size := ok_size (P := P) (w := w) (base := base) T
  have G_take := ok_take (P := P) (w := w) (base := base) T
  refine T.F_beside.ok sc_beside (fun vs H Q E h => by first | (obtain ⟨_, rfl, _⟩ := h; rfl) | (obtain ⟨_, _, rfl, _⟩ := h; rfl) | (obtain ⟨_, _, _, rfl, _⟩ := h; rfl) | (obtain ⟨_, _, _, _, rfl, _⟩ := h; rfl) | (obtain ⟨_, _, _, _, _, rfl, _⟩ := h; rfl) | (obtain ⟨_, _, _, _, _, _, rfl, _⟩ := h; rfl) | (obtain ⟨_, _, _, _, _, _, _, rfl, _⟩ := h; rfl) | (obtain ⟨_, _, _, _, _, _, _, _, rfl, _⟩ := h; rfl) | (obtain ⟨_, _, _, _, _, _, _, _, _, rfl, _⟩ := h; rfl)) (fun cdv A outer s H vs Q E hr h => ⟨t_beside K a.C a.Z E, ?_, pure_beside vs H Q E h⟩)
  exact (pss_cons (ps_set (i := 2) sc_beside.nd rfl (.inl rfl) (pe_call G_take (hr.mono (by decide)) rfl T.g_take T.k_take T.b_take .nil pass0 (pa_cons (pv 0) (pa_cons pe_int pa_nil))))
      (pss_cons (ps_if (pt_cmpR op_eq (pv 2) pe_int (nomark _)) (pss_one (ps_ret (pe_ix ix_1 (pv 1) pe_int (fun _ _ => rfl)))) pss_nil)
      (pss_cons (ps_if (pt_cmpR op_eq (pv 2) pe_int (nomark _)) (pss_one (ps_ret (pe_op op_fdivF (pe_ix ix_1 (pv 1) pe_int (fun _ _ => rfl)) (pe_ix ix_1 (pv 1) pe_int (fun _ _ => rfl))))) pss_nil)
      (pss_cons (ps_if (pt_cmpR op_eq (pv 2) pe_int (nomark _)) (pss_one (ps_ret pe_int)) pss_nil)
      (pss_cons (ps_set (i := 3) sc_beside.nd rfl (.inl rfl) (pe_call G_size (hr.mono (by decide)) rfl T.g_size T.k_size T.b_size .nil pass0 (pa_cons (pv 0) pa_nil)))
      (pss_cons (ps_if (pt_cmpR op_eq (pe_call G_take (hr.mono (by decide)) rfl T.g_take T.k_take T.b_take .nil pass0 (pa_cons (pv 0) (pa_cons pe_int pa_nil))) pe_int (nomark _)) (pss_one (ps_ret (pe_un un_neg (pv 3)))) pss_nil)
      (pss_one (ps_ret (pv 3)))))))))
theorem ok_right (T : Txt K mg a) : FnOk P w K mg base CX0 2 a.f_right a.d_right ["told", "due"] (spRight a.C) := by
  have G_common := ok_common (P := P) (w := w) (base := base) T
  have G_integer := ok_integer (P := P) (w := w) (base := base) T
  refine T.F_right.ok sc_right (fun vs H Q E h => by first | (obtain ⟨_, rfl, _⟩ := h; rfl) | (obtain ⟨_, _, rfl, _⟩ := h; rfl) | (obtain ⟨_, _, _, rfl, _⟩ := h; rfl) | (obtain ⟨_, _, _, _, rfl, _⟩ := h; rfl) | (obtain ⟨_, _, _, _, _, rfl, _⟩ := h; rfl) | (obtain ⟨_, _, _, _, _, _, rfl, _⟩ := h; rfl) | (obtain ⟨_, _, _, _, _, _, _, rfl, _⟩ := h; rfl) | (obtain ⟨_, _, _, _, _, _, _, _, rfl, _⟩ := h; rfl) | (obtain ⟨_, _, _, _, _, _, _, _, _, rfl, _⟩ := h; rfl)) (fun cdv A outer s H vs Q E hr h => ⟨t_right K a.C a.Z E, ?_, pure_right vs H Q E h⟩)
  exact (pss_cons (ps_if (PW.pt (pw_or (pt_not (pt_val (pe_callB (call_isA T.isa_Ratio) (by rfl) T.n_isinstance (by decide +kernel) (pa_cons (pv 0) (pa_cons (pe_glob rfl T.g_Ratio rfl) pa_nil))))) (pw_or (pt_not (pt_val (pe_call G_integer (hr.mono (by decide)) rfl T.g_integer T.k_integer T.b_integer .nil pass0 (pa_cons (pe_fldA (pv 0) T.isa_Ratio.cl T.na_top rfl) pa_nil)))) (pw_or1 (pt_not (pt_val (pe_call G_integer (hr.mono (by decide)) rfl T.g_integer T.k_integer T.b_integer .nil pass0 (pa_cons (pe_fldA (pv 0) T.isa_Ratio.cl T.na_bottom rfl) pa_nil)))))))) (pss_one (ps_ret pe_bl)) pss_nil)
      (pss_cons (ps_if (PW.pt (pw_or (pt_cmpR op_lt (pe_fldA (pv 0) T.isa_Ratio.cl T.na_bottom rfl) pe_int (nomark _)) (pw_or1 (pt_cmpR op_ne (pe_op op_mulI (pe_fldA (pv 0) T.isa_Ratio.cl T.na_top rfl) (pe_ix ix_1 (pv 1) pe_int (fun _ _ => rfl))) (pe_op op_mulI (pe_ix ix_1 (pv 1) pe_int (fun _ _ => rfl)) (pe_fldA (pv 0) T.isa_Ratio.cl T.na_bottom rfl)) (nomark _))))) (pss_one (ps_ret pe_bl)) pss_nil)
      (pss_one (ps_ret (pe_cmpR op_eq (pe_call G_common (hr.mono (by decide)) rfl T.g_common T.k_common T.b_common .nil pass0 (pa_cons (pe_fldA (pv 0) T.isa_Ratio.cl T.na_top rfl) (pa_cons (pe_fldA (pv 0) T.isa_Ratio.cl T.na_bottom rfl) pa_nil))) pe_int (nomark _))))))
theorem ok_results (T : Txt K mg a) : FnOk P w K mg base CX0 5 a.f_results a.d_results ["first", "second", "number", "one", "two"] (spResults a.C) := by
  have G_abs := ok_abs (P := P) (w := w) (base := base) T
  have G_add := ok_add (P := P) (w := w) (base := base) T
  have G_init := ok_init (P := P) (w := w) (base := base) T
  have G_mul := ok_mul (P := P) (w := w) (base := base) T
  have G_neg := ok_neg (P := P) (w := w) (base := base) T
  have G_over := ok_over (P := P) (w := w) (base := base) T
  have G_radd := ok_radd (P := P) (w := w) (base := base) T
  have G_right := ok_right (P := P) (w := w) (base := base) T
  have G_rmul := ok_rmul (P := P) (w := w) (base := base) T
  have G_rsub := ok_rsub (P := P) (w := w) (base := base) T
  have G_sub := ok_sub (P := P) (w := w) (base := base) T
  refine T.F_results.ok sc_results (fun vs H Q E h => by first | (obtain ⟨_, rfl, _⟩ := h; rfl) | (obtain ⟨_, _, rfl, _⟩ := h; rfl) | (obtain ⟨_, _, _, rfl, _⟩ := h; rfl) | (obtain ⟨_, _, _, _, rfl, _⟩ := h; rfl) | (obtain ⟨_, _, _, _, _, rfl, _⟩ := h; rfl) | (obtain ⟨_, _, _, _, _, _, rfl, _⟩ := h; rfl) | (obtain ⟨_, _, _, _, _, _, _, rfl, _⟩ := h; rfl) | (obtain ⟨_, _, _, _, _, _, _, _, rfl, _⟩ := h; rfl) | (obtain ⟨_, _, _, _, _, _, _, _, _, rfl, _⟩ := h; rfl)) (fun cdv A outer s H vs Q E hr h => ⟨t_results K a.C a.Z E, ?_, pure_results vs H Q E h⟩)
  exact (pss_cons (ps_set (i := 5) sc_results.nd rfl (.inl rfl) (pe_op op_mulI (pe_ix ix_1 (pv 3) pe_int (fun _ _ => rfl)) (pe_ix ix_1 (pv 4) pe_int (fun _ _ => rfl))))
      (pss_cons (ps_set (i := 6) sc_results.nd rfl (.inl rfl) (pe_op op_mulI (pe_ix ix_1 (pv 4) pe_int (fun _ _ => rfl)) (pe_ix ix_1 (pv 3) pe_int (fun _ _ => rfl))))
      (pss_cons (ps_set (i := 7) sc_results.nd rfl (.inl rfl) (pe_op op_mulI (pe_ix ix_1 (pv 3) pe_int (fun _ _ => rfl)) (pe_ix ix_1 (pv 4) pe_int (fun _ _ => rfl))))
      (pss_cons (ps_set (i := 8) sc_results.nd rfl (.inl rfl) (pe_op op_mulI (pv 2) (pe_ix ix_1 (pv 3) pe_int (fun _ _ => rfl))))
      (pss_cons (ps_set (i := 9) sc_results.nd rfl (.inl rfl) (pe_lst (pa_cons (pe_tup (pa_cons (pe_op (op_own2 T.o_add G_add (hr.mono (by decide)) T.b_add pass0) (pv 0) (pv 1)) (pa_cons (pe_tup (pa_cons (pe_op op_add (pv 5) (pv 6)) (pa_cons (pv 7) pa_nil))) pa_nil))) (pa_cons (pe_tup (pa_cons (pe_op (op_own2 T.o_sub G_sub (hr.mono (by decide)) T.b_sub pass0) (pv 0) (pv 1)) (pa_cons (pe_tup (pa_cons (pe_op op_sub (pv 5) (pv 6)) (pa_cons (pv 7) pa_nil))) pa_nil))) pa_nil))))
      (pss_cons (ps_expr (pe_bm PySem.F.plainAttrs_list PySem.F.slot_list_append PySem.F.type_list_append mt_append (pv 9) (pa_cons (pe_tup (pa_cons (pe_op (op_own2 T.o_sub G_sub (hr.mono (by decide)) T.b_sub pass0) (pv 1) (pv 0)) (pa_cons (pe_tup (pa_cons (pe_op op_sub (pv 6) (pv 5)) (pa_cons (pv 7) pa_nil))) pa_nil))) pa_nil)))
      (pss_cons (ps_expr (pe_bm PySem.F.plainAttrs_list PySem.F.slot_list_append PySem.F.type_list_append mt_append (pv 9) (pa_cons (pe_tup (pa_cons (pe_op (op_own2 T.o_mul G_mul (hr.mono (by decide)) T.b_mul pass0) (pv 0) (pv 1)) (pa_cons (pe_tup (pa_cons (pe_op op_mulI (pe_ix ix_1 (pv 3) pe_int (fun _ _ => rfl)) (pe_ix ix_1 (pv 4) pe_int (fun _ _ => rfl))) (pa_cons (pv 7) pa_nil))) pa_nil))) pa_nil)))
      (pss_cons (ps_expr (pe_bm PySem.F.plainAttrs_list PySem.F.slot_list_append PySem.F.type_list_append mt_append (pv 9) (pa_cons (pe_tup (pa_cons (pe_op (op_ownI T.o_add T.i_add G_add (hr.mono (by decide)) T.b_add pass0) (pv 0) (pv 2)) (pa_cons (pe_tup (pa_cons (pe_op op_add (pe_ix ix_1 (pv 3) pe_int (fun _ _ => rfl)) (pv 8)) (pa_cons (pe_ix ix_1 (pv 3) pe_int (fun _ _ => rfl)) pa_nil))) pa_nil))) pa_nil)))
      (pss_cons (ps_expr (pe_bm PySem.F.plainAttrs_list PySem.F.slot_list_append PySem.F.type_list_append mt_append (pv 9) (pa_cons (pe_tup (pa_cons (pe_op (op_ownR T.o_radd decl_add G_radd (hr.mono (by decide)) T.b_radd pass0) (pv 2) (pv 0)) (pa_cons (pe_tup (pa_cons (pe_op op_add (pe_ix ix_1 (pv 3) pe_int (fun _ _ => rfl)) (pv 8)) (pa_cons (pe_ix ix_1 (pv 3) pe_int (fun _ _ => rfl)) pa_nil))) pa_nil))) pa_nil)))
      (pss_cons (ps_expr (pe_bm PySem.F.plainAttrs_list PySem.F.slot_list_append PySem.F.type_list_append mt_append (pv 9) (pa_cons (pe_tup (pa_cons (pe_op (op_ownI T.o_sub T.i_sub G_sub (hr.mono (by decide)) T.b_sub pass0) (pv 0) (pv 2)) (pa_cons (pe_tup (pa_cons (pe_op op_sub (pe_ix ix_1 (pv 3) pe_int (fun _ _ => rfl)) (pv 8)) (pa_cons (pe_ix ix_1 (pv 3) pe_int (fun _ _ => rfl)) pa_nil))) pa_nil))) pa_nil)))
      (pss_cons (ps_expr (pe_bm PySem.F.plainAttrs_list PySem.F.slot_list_append PySem.F.type_list_append mt_append (pv 9) (pa_cons (pe_tup (pa_cons (pe_op (op_ownR T.o_rsub decl_sub G_rsub (hr.mono (by decide)) T.b_rsub pass0) (pv 2) (pv 0)) (pa_cons (pe_tup (pa_cons (pe_op op_sub (pv 8) (pe_ix ix_1 (pv 3) pe_int (fun _ _ => rfl))) (pa_cons (pe_ix ix_1 (pv 3) pe_int (fun _ _ => rfl)) pa_nil))) pa_nil))) pa_nil)))
      (pss_cons (ps_expr (pe_bm PySem.F.plainAttrs_list PySem.F.slot_list_append PySem.F.type_list_append mt_append (pv 9) (pa_cons (pe_tup (pa_cons (pe_op (op_ownI T.o_mul T.i_mul G_mul (hr.mono (by decide)) T.b_mul pass0) (pv 0) (pv 2)) (pa_cons (pe_tup (pa_cons (pe_op op_mulI (pe_ix ix_1 (pv 3) pe_int (fun _ _ => rfl)) (pv 2)) (pa_cons (pe_ix ix_1 (pv 3) pe_int (fun _ _ => rfl)) pa_nil))) pa_nil))) pa_nil)))
      (pss_cons (ps_expr (pe_bm PySem.F.plainAttrs_list PySem.F.slot_list_append PySem.F.type_list_append mt_append (pv 9) (pa_cons (pe_tup (pa_cons (pe_op (op_ownR T.o_rmul decl_mul G_rmul (hr.mono (by decide)) T.b_rmul pass0) (pv 2) (pv 0)) (pa_cons (pe_tup (pa_cons (pe_op op_mulI (pe_ix ix_1 (pv 3) pe_int (fun _ _ => rfl)) (pv 2)) (pa_cons (pe_ix ix_1 (pv 3) pe_int (fun _ _ => rfl)) pa_nil))) pa_nil))) pa_nil)))
      (pss_cons (ps_expr (pe_bm PySem.F.plainAttrs_list PySem.F.slot_list_append PySem.F.type_list_append mt_append (pv 9) (pa_cons (pe_tup (pa_cons (pe_un (un_own T.o_neg T.i_neg G_neg (hr.mono (by decide)) T.b_neg pass0) (pv 0)) (pa_cons (pe_tup (pa_cons (pe_un un_neg (pe_ix ix_1 (pv 3) pe_int (fun _ _ => rfl))) (pa_cons (pe_ix ix_1 (pv 3) pe_int (fun _ _ => rfl)) pa_nil))) pa_nil))) pa_nil)))
      (pss_cons (ps_expr (pe_bm PySem.F.plainAttrs_list PySem.F.slot_list_append PySem.F.type_list_append mt_append (pv 9) (pa_cons (pe_tup (pa_cons (pe_callB (call_absOwn T.o_abs T.i_abs G_abs (hr.mono (by decide)) T.b_abs pass0) (by rfl) T.n_abs (by decide +kernel) (pa_cons (pv 0) pa_nil)) (pa_cons (pe_tup (pa_cons (pe_callB call_abs (by rfl) T.n_abs (by decide +kernel) (pa_cons (pe_ix ix_1 (pv 3) pe_int (fun _ _ => rfl)) pa_nil)) (pa_cons (pe_callB call_abs (by rfl) T.n_abs (by decide +kernel) (pa_cons (pe_ix ix_1 (pv 3) pe_int (fun _ _ => rfl)) pa_nil)) pa_nil))) pa_nil))) pa_nil)))
      (pss_cons (ps_expr (pe_bm PySem.F.plainAttrs_list PySem.F.slot_list_append PySem.F.type_list_append mt_append (pv 9) (pa_cons (pe_tup (pa_cons (pe_make T.mk_Ratio G_init (hr.mono (by decide)) rfl T.g_Ratio T.b_init1 T.v_init1 passL (pa_cons (pv 2) pa_nil)) (pa_cons (pe_tup (pa_cons (pv 2) (pa_cons pe_int pa_nil))) pa_nil))) pa_nil)))
      (pss_cons (ps_expr (pe_bm PySem.F.plainAttrs_list PySem.F.slot_list_append PySem.F.type_list_append mt_append (pv 9) (pa_cons (pe_tup (pa_cons (pe_op (op_own2 T.o_sub G_sub (hr.mono (by decide)) T.b_sub pass0) (pe_op (op_own2 T.o_add G_add (hr.mono (by decide)) T.b_add pass0) (pv 0) (pv 1)) (pv 1)) (pa_cons (pv 3) pa_nil))) pa_nil)))
      (pss_cons (ps_expr (pe_bm PySem.F.plainAttrs_list PySem.F.slot_list_append PySem.F.type_list_append mt_append (pv 9) (pa_cons (pe_tup (pa_cons (pe_op (op_own2 T.o_mul G_mul (hr.mono (by decide)) T.b_mul pass0) (pe_op (op_own2 T.o_add G_add (hr.mono (by decide)) T.b_add pass0) (pv 0) (pv 1)) (pe_op (op_own2 T.o_sub G_sub (hr.mono (by decide)) T.b_sub pass0) (pv 0) (pv 1))) (pa_cons (pe_tup (pa_cons (pe_op op_sub (pe_op op_mulI (pv 5) (pv 5)) (pe_op op_mulI (pv 6) (pv 6))) (pa_cons (pe_op op_mulI (pv 7) (pv 7)) pa_nil))) pa_nil))) pa_nil)))
      (pss_cons (ps_if (pt_cmpR op_ne (pe_ix ix_1 (pv 4) pe_int (fun _ _ => rfl)) pe_int (nomark _)) (pss_cons (ps_expr (pe_bm PySem.F.plainAttrs_list PySem.F.slot_list_append PySem.F.type_list_append mt_append (pv 9) (pa_cons (pe_tup (pa_cons (pe_meth (pv 0) T.isa_Ratio.cl T.m_over G_over (hr.mono (by decide)) T.b_over .nil passL (pa_cons (pv 1) pa_nil)) (pa_cons (pe_tup (pa_cons (pv 5) (pa_cons (pv 6) pa_nil))) pa_nil))) pa_nil)))
      (pss_one (ps_expr (pe_bm PySem.F.plainAttrs_list PySem.F.slot_list_append PySem.F.type_list_append mt_append (pv 9) (pa_cons (pe_tup (pa_cons (pe_meth (pe_op (op_own2 T.o_mul G_mul (hr.mono (by decide)) T.b_mul pass0) (pv 0) (pv 1)) T.isa_Ratio.cl T.m_over G_over (hr.mono (by decide)) T.b_over .nil passL (pa_cons (pv 1) pa_nil)) (pa_cons (pv 3) pa_nil))) pa_nil))))) pss_nil)
      (pss_cons (ps_if (pt_cmpR op_ne (pv 2) pe_int (nomark _)) (pss_one (ps_expr (pe_bm PySem.F.plainAttrs_list PySem.F.slot_list_append PySem.F.type_list_append mt_append (pv 9) (pa_cons (pe_tup (pa_cons (pe_meth (pv 0) T.isa_Ratio.cl T.m_over G_over (hr.mono (by decide)) T.b_over .nil passL (pa_cons (pv 2) pa_nil)) (pa_cons (pe_tup (pa_cons (pe_ix ix_1 (pv 3) pe_int (fun _ _ => rfl)) (pa_cons (pv 8) pa_nil))) pa_nil))) pa_nil)))) pss_nil)
      (pss_cons (ps_for PassesOwn.never rfl (pi_list (pv 9)) (pg_name (i := 10) sc_results.nd rfl (.inl rfl)) (pss_one (ps_if (pt_not (pt_val (pe_call G_right (hr.mono (by decide)) rfl T.g_right T.k_right T.b_right .nil pass0 (pa_cons (pe_ix ix_1 (pv 10) pe_int (fun _ _ => rfl)) (pa_cons (pe_ix ix_1 (pv 10) pe_int (fun _ _ => rfl)) pa_nil))))) (pss_one (ps_ret pe_bl)) pss_nil)))
      (pss_one (ps_ret pe_bl)))))))))))))))))))))))
theorem ok_side (T : Txt K mg a) : FnOk P w K mg base CX0 1 a.f_side a.d_side ["above", "below"] spSide := by
  refine T.F_side.ok sc_side (fun vs H Q E h => by first | (obtain ⟨_, rfl, _⟩ := h; rfl) | (obtain ⟨_, _, rfl, _⟩ := h; rfl) | (obtain ⟨_, _, _, rfl, _⟩ := h; rfl) | (obtain ⟨_, _, _, _, rfl, _⟩ := h; rfl) | (obtain ⟨_, _, _, _, _, rfl, _⟩ := h; rfl) | (obtain ⟨_, _, _, _, _, _, rfl, _⟩ := h; rfl) | (obtain ⟨_, _, _, _, _, _, _, rfl, _⟩ := h; rfl) | (obtain ⟨_, _, _, _, _, _, _, _, rfl, _⟩ := h; rfl) | (obtain ⟨_, _, _, _, _, _, _, _, _, rfl, _⟩ := h; rfl)) (fun cdv A outer s H vs Q E hr h => ⟨t_side K a.C a.Z E, ?_, pure_side vs H Q E h⟩)
  exact (pss_cons (ps_if (pt_cmpR op_eq (pv 0) pe_int (nomark _)) (pss_one (ps_ret pe_int)) pss_nil)
      (pss_cons (ps_if (pt_cmpR op_eq (pe_cmpR op_gt (pv 0) pe_int (nomark _)) (pe_cmpR op_gt (pv 1) pe_int (nomark _)) (nomark _)) (pss_one (ps_ret pe_int)) pss_nil)
      (pss_one (ps_ret (pe_un un_neg pe_int)))))
theorem ok_signs (T : Txt K mg a) : FnOk P w K mg base CX0 5 a.f_signs a.d_signs ["first", "second", "one", "two"] (spSigns a.C) := by
  have G_compare := ok_compare (P := P) (w := w) (base := base) T
  have G_integer := ok_integer (P := P) (w := w) (base := base) T
  have G_side := ok_side (P := P) (w := w) (base := base) T
  have G_sign := ok_sign (P := P) (w := w) (base := base) T
  refine T.F_signs.ok sc_signs (fun vs H Q E h => by first | (obtain ⟨_, rfl, _⟩ := h; rfl) | (obtain ⟨_, _, rfl, _⟩ := h; rfl) | (obtain ⟨_, _, _, rfl, _⟩ := h; rfl) | (obtain ⟨_, _, _, _, rfl, _⟩ := h; rfl) | (obtain ⟨_, _, _, _, _, rfl, _⟩ := h; rfl) | (obtain ⟨_, _, _, _, _, _, rfl, _⟩ := h; rfl) | (obtain ⟨_, _, _, _, _, _, _, rfl, _⟩ := h; rfl) | (obtain ⟨_, _, _, _, _, _, _, _, rfl, _⟩ := h; rfl) | (obtain ⟨_, _, _, _, _, _, _, _, _, rfl, _⟩ := h; rfl)) (fun cdv A outer s H vs Q E hr h => ⟨t_signs K a.C a.Z E, ?_, pure_signs vs H Q E h⟩)
  exact (pss_cons (ps_set (i := 4) sc_signs.nd rfl (.inl rfl) (pe_call G_side (hr.mono (by decide)) rfl T.g_side T.k_side T.b_side .nil pass0 (pa_cons (pe_op op_sub (pe_op op_mulI (pe_ix ix_1 (pv 2) pe_int (fun _ _ => rfl)) (pe_ix ix_1 (pv 3) pe_int (fun _ _ => rfl))) (pe_op op_mulI (pe_ix ix_1 (pv 3) pe_int (fun _ _ => rfl)) (pe_ix ix_1 (pv 2) pe_int (fun _ _ => rfl)))) (pa_cons (pe_op op_mulI (pe_ix ix_1 (pv 2) pe_int (fun _ _ => rfl)) (pe_ix ix_1 (pv 3) pe_int (fun _ _ => rfl))) pa_nil))))
      (pss_cons (ps_set (i := 5) sc_signs.nd rfl (.inl rfl) (pe_lst (pa_cons (pe_tup (pa_cons (pe_meth0 (pv 0) T.isa_Ratio.cl T.m_sign G_sign (hr.mono (by decide)) T.b_sign .nil pass0) (pa_cons (pe_call G_side (hr.mono (by decide)) rfl T.g_side T.k_side T.b_side .nil pass0 (pa_cons (pe_ix ix_1 (pv 2) pe_int (fun _ _ => rfl)) (pa_cons (pe_ix ix_1 (pv 2) pe_int (fun _ _ => rfl)) pa_nil))) pa_nil))) (pa_cons (pe_tup (pa_cons (pe_meth0 (pv 1) T.isa_Ratio.cl T.m_sign G_sign (hr.mono (by decide)) T.b_sign .nil pass0) (pa_cons (pe_call G_side (hr.mono (by decide)) rfl T.g_side T.k_side T.b_side .nil pass0 (pa_cons (pe_ix ix_1 (pv 3) pe_int (fun _ _ => rfl)) (pa_cons (pe_ix ix_1 (pv 3) pe_int (fun _ _ => rfl)) pa_nil))) pa_nil))) pa_nil))))
      (pss_cons (ps_expr (pe_bm PySem.F.plainAttrs_list PySem.F.slot_list_append PySem.F.type_list_append mt_append (pv 5) (pa_cons (pe_tup (pa_cons (pe_call G_compare (hr.mono (by decide)) rfl T.g_compare T.k_compare T.b_compare .nil pass0 (pa_cons (pv 0) (pa_cons (pv 1) pa_nil))) (pa_cons (pv 4) pa_nil))) pa_nil)))
      (pss_cons (ps_expr (pe_bm PySem.F.plainAttrs_list PySem.F.slot_list_append PySem.F.type_list_append mt_append (pv 5) (pa_cons (pe_tup (pa_cons (pe_call G_compare (hr.mono (by decide)) rfl T.g_compare T.k_compare T.b_compare .nil pass0 (pa_cons (pv 1) (pa_cons (pv 0) pa_nil))) (pa_cons (pe_un un_neg (pv 4)) pa_nil))) pa_nil)))
      (pss_cons (ps_expr (pe_bm PySem.F.plainAttrs_list PySem.F.slot_list_append PySem.F.type_list_append mt_append (pv 5) (pa_cons (pe_tup (pa_cons (pe_call G_compare (hr.mono (by decide)) rfl T.g_compare T.k_compare T.b_compare .nil pass0 (pa_cons (pv 0) (pa_cons (pv 0) pa_nil))) (pa_cons pe_int pa_nil))) pa_nil)))
      (pss_cons (ps_for PassesOwn.never rfl (pi_list (pv 5)) (pg_name (i := 6) sc_signs.nd rfl (.inl rfl)) (pss_one (ps_if (PW.pt (pw_or (pt_not (pt_val (pe_call G_integer (hr.mono (by decide)) rfl T.g_integer T.k_integer T.b_integer .nil pass0 (pa_cons (pe_ix ix_1 (pv 6) pe_int (fun _ _ => rfl)) pa_nil)))) (pw_or1 (pt_cmpR op_ne (pe_ix ix_1 (pv 6) pe_int (fun _ _ => rfl)) (pe_ix ix_1 (pv 6) pe_int (fun _ _ => rfl)) (nomark _))))) (pss_one (ps_ret pe_bl)) pss_nil)))
      (pss_one (ps_ret pe_bl))))))))
theorem ok_compared (T : Txt K mg a) : FnOk P w K mg base CX0 4 a.f_compared a.d_compared ["first", "second", "number", "one", "two"] (spCompared a.C) := by
  have G_bool := ok_bool (P := P) (w := w) (base := base) T
  have G_eq := ok_eq (P := P) (w := w) (base := base) T
  have G_init := ok_init (P := P) (w := w) (base := base) T
  refine T.F_compared.ok sc_compared (fun vs H Q E h => by first | (obtain ⟨_, rfl, _⟩ := h; rfl) | (obtain ⟨_, _, rfl, _⟩ := h; rfl) | (obtain ⟨_, _, _, rfl, _⟩ := h; rfl) | (obtain ⟨_, _, _, _, rfl, _⟩ := h; rfl) | (obtain ⟨_, _, _, _, _, rfl, _⟩ := h; rfl) | (obtain ⟨_, _, _, _, _, _, rfl, _⟩ := h; rfl) | (obtain ⟨_, _, _, _, _, _, _, rfl, _⟩ := h; rfl) | (obtain ⟨_, _, _, _, _, _, _, _, rfl, _⟩ := h; rfl) | (obtain ⟨_, _, _, _, _, _, _, _, _, rfl, _⟩ := h; rfl)) (fun cdv A outer s H vs Q E hr h => ⟨t_compared K a.C a.Z E, ?_, pure_compared vs H Q E h⟩)
  exact (pss_cons (ps_set (i := 5) sc_compared.nd rfl (.inl rfl) (pe_cmpR op_eq (pe_op op_mulI (pe_ix ix_1 (pv 3) pe_int (fun _ _ => rfl)) (pe_ix ix_1 (pv 4) pe_int (fun _ _ => rfl))) (pe_op op_mulI (pe_ix ix_1 (pv 4) pe_int (fun _ _ => rfl)) (pe_ix ix_1 (pv 3) pe_int (fun _ _ => rfl))) (nomark _)))
      (pss_cons (ps_if (PW.pt (pw_or (pt_cmpR op_ne (pe_cmpR (cmp_own2 T.o_eq G_eq (hr.mono (by decide)) T.b_eq pass0) (pv 0) (pv 1) (nomark _)) (pv 5) (nomark _)) (pw_or1 (pt_cmpR op_ne (pe_cmpR (cmp_own2 T.o_eq G_eq (hr.mono (by decide)) T.b_eq pass0) (pv 1) (pv 0) (nomark _)) (pv 5) (nomark _))))) (pss_one (ps_ret pe_bl)) pss_nil)
      (pss_cons (ps_set (i := 6) sc_compared.nd rfl (.inl rfl) (pe_cmpR op_eq (pe_ix ix_1 (pv 3) pe_int (fun _ _ => rfl)) (pe_op op_mulI (pv 2) (pe_ix ix_1 (pv 3) pe_int (fun _ _ => rfl))) (nomark _)))
      (pss_cons (ps_if (PW.pt (pw_or (pt_cmpR op_ne (pe_cmpR (cmp_ownI T.o_eq G_eq (hr.mono (by decide)) T.b_eq pass0) (pv 0) (pv 2) (nomark _)) (pv 6) (nomark _)) (pw_or1 (pt_cmpR op_ne (pe_cmpR (cmp_ownR T.o_eq G_eq (hr.mono (by decide)) T.b_eq pass0) (pv 2) (pv 0) (nomark _)) (pv 6) (nomark _))))) (pss_one (ps_ret pe_bl)) pss_nil)
      (pss_cons (ps_if (pt_not (pt_cmpR (cmp_own2 T.o_eq G_eq (hr.mono (by decide)) T.b_eq pass0) (pv 0) (pe_make T.mk_Ratio G_init (hr.mono (by decide)) rfl T.g_Ratio T.b_init .nil passL (pa_cons (pe_ix ix_1 (pv 3) pe_int (fun _ _ => rfl)) (pa_cons (pe_ix ix_1 (pv 3) pe_int (fun _ _ => rfl)) pa_nil))) (nomark _))) (pss_one (ps_ret pe_bl)) pss_nil)
      (pss_one (ps_ret (pe_and (pe_cmpR op_eq (pe_callTy (call_boolOwn T.o_bool T.i_bool G_bool (hr.mono (by decide)) T.b_bool pass0) (by rfl) T.n_bool (by decide +kernel) (pa_cons (pv 0) pa_nil)) (pe_cmpR op_ne (pe_ix ix_1 (pv 3) pe_int (fun _ _ => rfl)) pe_int (nomark _)) (nomark _)) (pe_one (pe_cmpR op_eq (pe_callTy (call_boolOwn T.o_bool T.i_bool G_bool (hr.mono (by decide)) T.b_bool pass0) (by rfl) T.n_bool (by decide +kernel) (pa_cons (pv 1) pa_nil)) (pe_cmpR op_ne (pe_ix ix_1 (pv 4) pe_int (fun _ _ => rfl)) pe_int (nomark _)) (nomark _)))))))))))
theorem ok_refused (T : Txt K mg a) : FnOk P w K mg base CX0 9 a.f_refused a.d_refused ["first", "above", "kind"] (spRefused a.C) := by
  have G_init := ok_init (P := P) (w := w) (base := base) T
  have G_over := ok_over (P := P) (w := w) (base := base) T
  have G_sub := ok_sub (P := P) (w := w) (base := base) T
  refine T.F_refused.ok sc_refused (fun vs H Q E h => by first | (obtain ⟨_, rfl, _⟩ := h; rfl) | (obtain ⟨_, _, rfl, _⟩ := h; rfl) | (obtain ⟨_, _, _, rfl, _⟩ := h; rfl) | (obtain ⟨_, _, _, _, rfl, _⟩ := h; rfl) | (obtain ⟨_, _, _, _, _, rfl, _⟩ := h; rfl) | (obtain ⟨_, _, _, _, _, _, rfl, _⟩ := h; rfl) | (obtain ⟨_, _, _, _, _, _, _, rfl, _⟩ := h; rfl) | (obtain ⟨_, _, _, _, _, _, _, _, rfl, _⟩ := h; rfl) | (obtain ⟨_, _, _, _, _, _, _, _, _, rfl, _⟩ := h; rfl)) (fun cdv A outer s H vs Q E hr h => ⟨t_refused K a.C a.Z a.BN a.TL a.SE, ?_, pure_refused T.exc vs H Q E h⟩)
  exact (pss_cons (ps_set (i := 3) sc_refused.nd rfl (.inl rfl) (pe_lst pa_nil))
      (pss_cons (ps_try_as (i := 4) (tb := t_tryb a.C a.Z) (ts := t_caught K a.Z a.BN a.TL) (Wout := fun _ _ _ _ => False) rfl rfl sc_refused.nd rfl rfl ⟨rfl, by decide, Or.inl T.g_SpotError⟩ takes0
      (fun W pn xe tk _ => (pss_cons (ps_if (pt_cmpR op_eq (pv 2) pe_int (nomark _)) (pss_one (ps_expr (by exact (pe_makeS T.mk_Ratio G_init (hr.mono (by decide)) rfl T.g_Ratio T.b_init (fun σ => passAt tk σ) (pa_cons (pv 1) (pa_cons pe_int pa_nil)))))) pss_nil)
      (pss_cons (ps_if (pt_cmpR op_eq (pv 2) pe_int (nomark _)) (pss_one (ps_expr (by exact (pe_methSt (pv 0) T.isa_Ratio.cl T.m_over G_over (hr.mono (by decide)) T.b_over (fun σ => passAt tk σ) (pa_cons pe_int pa_nil))))) pss_nil)
      (pss_cons (ps_if (pt_cmpR op_eq (pv 2) pe_int (nomark _)) (pss_one (ps_expr (by exact (pe_methSt (pv 0) T.isa_Ratio.cl T.m_over G_over (hr.mono (by decide)) T.b_over (fun σ => passAt tk σ) (pa_cons (pe_make T.mk_Ratio G_init (hr.mono (by decide)) rfl T.g_Ratio T.b_init .nil passL (pa_cons pe_int (pa_cons pe_int pa_nil))) pa_nil))))) pss_nil)
      (pss_one (ps_if (pt_cmpR op_eq (pv 2) pe_int (nomark _)) (pss_one (ps_expr (by exact (pe_methSt (pv 0) T.isa_Ratio.cl T.m_over G_over (hr.mono (by decide)) T.b_over (fun σ => passAt tk σ) (pa_cons (pe_op (op_own2 T.o_sub G_sub (hr.mono (by decide)) T.b_sub pass0) (pv 0) (pv 0)) pa_nil))))) pss_nil))))))
      (fun a0 oe cls d pn hz hf => (pss_cons (ps_set (i := 5) sc_refused.nd rfl (.inl rfl) (by exact (pe_or (pe_callB (call_caught T.exc.cz hz hf) (by rfl) T.n_isinstance (by decide +kernel) (pa_cons (pv 4) (pa_cons (pe_glob rfl T.g_BadNumber rfl) pa_nil))) (pe_one (pe_callB (call_caught T.exc.cz hz hf) (by rfl) T.n_isinstance (by decide +kernel) (pa_cons (pv 4) (pa_cons (pe_glob rfl T.g_TooLarge rfl) pa_nil)))))))
      (pss_one (ps_set (i := 3) sc_refused.nd rfl (.inl rfl) (by exact (pe_lst (pa_cons (pe_callB (call_caught T.exc.cz hz hf) (by rfl) T.n_isinstance (by decide +kernel) (pa_cons (pv 4) (pa_cons (pe_glob rfl T.gZ rfl) pa_nil))) (pa_cons (pe_callB (call_caught T.exc.cz hz hf) (by rfl) T.n_isinstance (by decide +kernel) (pa_cons (pv 4) (pa_cons (pe_bltn (by rfl) T.n_ValueError (by decide +kernel) rfl) pa_nil))) (pa_cons (pv 5) pa_nil))))))))))
      (pss_one (ps_ret (pe_cmpR (op_eqD hr.units) (pv 3) (pe_lst (pa_cons pe_bl (pa_cons pe_bl (pa_cons pe_bl pa_nil)))) (nomark _))))))
theorem ok_law (T : Txt K mg a) : FnOk P w K mg base CX0 10 a.f_law a.d_law ["script"] (spLaw K) := by
  have G_add := ok_add (P := P) (w := w) (base := base) T
  have G_beside := ok_beside (P := P) (w := w) (base := base) T
  have G_compared := ok_compared (P := P) (w := w) (base := base) T
  have G_fraction := ok_fraction (P := P) (w := w) (base := base) T
  have G_init := ok_init (P := P) (w := w) (base := base) T
  have G_over := ok_over (P := P) (w := w) (base := base) T
  have G_pool := ok_pool (P := P) (w := w) (base := base) T
  have G_refused := ok_refused (P := P) (w := w) (base := base) T
  have G_results := ok_results (P := P) (w := w) (base := base) T
  have G_right := ok_right (P := P) (w := w) (base := base) T
  have G_second := ok_second (P := P) (w := w) (base := base) T
  have G_signs := ok_signs (P := P) (w := w) (base := base) T
  refine T.F_law.ok sc_law (fun vs H Q E h => by first | (obtain ⟨_, rfl, _⟩ := h; rfl) | (obtain ⟨_, _, rfl, _⟩ := h; rfl) | (obtain ⟨_, _, _, rfl, _⟩ := h; rfl) | (obtain ⟨_, _, _, _, rfl, _⟩ := h; rfl) | (obtain ⟨_, _, _, _, _, rfl, _⟩ := h; rfl) | (obtain ⟨_, _, _, _, _, _, rfl, _⟩ := h; rfl) | (obtain ⟨_, _, _, _, _, _, _, rfl, _⟩ := h; rfl) | (obtain ⟨_, _, _, _, _, _, _, _, rfl, _⟩ := h; rfl) | (obtain ⟨_, _, _, _, _, _, _, _, _, rfl, _⟩ := h; rfl)) (fun cdv A outer s H vs Q E hr h => ⟨t_law K a.C a.Z E, ?_, pure_law vs H Q E h⟩)
  exact (pss_cons (ps_set (i := 1) sc_law.nd rfl (.inl rfl) (pe_call G_pool (hr.mono (by decide)) rfl T.g_pool T.k_pool T.b_pool .nil pass0 (pa_cons (pv 0) pa_nil)))
      (pss_cons (ps_set (i := 2) sc_law.nd rfl (.inl rfl) (pe_call G_fraction (hr.mono (by decide)) rfl T.g_fraction T.k_fraction T.b_fraction .nil pass0 (pa_cons (pv 1) pa_nil)))
      (pss_cons (ps_set (i := 3) sc_law.nd rfl (.inl rfl) (pe_call G_second (hr.mono (by decide)) rfl T.g_second T.k_second T.b_second .nil pass0 (pa_cons (pv 1) (pa_cons (pv 2) pa_nil))))
      (pss_cons (ps_set (i := 4) sc_law.nd rfl (.inl rfl) (pe_call G_beside (hr.mono (by decide)) rfl T.g_beside T.k_beside T.b_beside .nil pass0 (pa_cons (pv 1) (pa_cons (pv 2) pa_nil))))
      (pss_cons (ps_set (i := 5) sc_law.nd rfl (.inl rfl) (pe_make T.mk_Ratio G_init (hr.mono (by decide)) rfl T.g_Ratio T.b_init .nil passL (pa_cons (pe_ix ix_1 (pv 2) pe_int (fun _ _ => rfl)) (pa_cons (pe_ix ix_1 (pv 2) pe_int (fun _ _ => rfl)) pa_nil))))
      (pss_cons (ps_set (i := 6) sc_law.nd rfl (.inl rfl) (pe_make T.mk_Ratio G_init (hr.mono (by decide)) rfl T.g_Ratio T.b_init .nil passL (pa_cons (pe_ix ix_1 (pv 3) pe_int (fun _ _ => rfl)) (pa_cons (pe_ix ix_1 (pv 3) pe_int (fun _ _ => rfl)) pa_nil))))
      (pss_cons (ps_if (PW.pt (pw_or (pt_not (pt_val (pe_call G_right (hr.mono (by decide)) rfl T.g_right T.k_right T.b_right .nil pass0 (pa_cons (pv 5) (pa_cons (pv 2) pa_nil))))) (pw_or1 (pt_not (pt_val (pe_call G_right (hr.mono (by decide)) rfl T.g_right T.k_right T.b_right .nil pass0 (pa_cons (pv 6) (pa_cons (pv 3) pa_nil)))))))) (pss_one (ps_ret pe_bl)) pss_nil)
      (pss_cons (ps_if (pt_not (pt_val (pe_call G_results (hr.mono (by decide)) rfl T.g_results T.k_results T.b_results .nil pass0 (pa_cons (pv 5) (pa_cons (pv 6) (pa_cons (pv 4) (pa_cons (pv 2) (pa_cons (pv 3) pa_nil)))))))) (pss_one (ps_ret pe_bl)) pss_nil)
      (pss_cons (ps_if (PW.pt (pw_or (pt_not (pt_val (pe_call G_compared (hr.mono (by decide)) rfl T.g_compared T.k_compared T.b_compared .nil pass0 (pa_cons (pv 5) (pa_cons (pv 6) (pa_cons (pv 4) (pa_cons (pv 2) (pa_cons (pv 3) pa_nil)))))))) (pw_or1 (pt_not (pt_val (pe_call G_signs (hr.mono (by decide)) rfl T.g_signs T.k_signs T.b_signs .nil pass0 (pa_cons (pv 5) (pa_cons (pv 6) (pa_cons (pv 2) (pa_cons (pv 3) pa_nil)))))))))) (pss_one (ps_ret pe_bl)) pss_nil)
      (pss_cons (ps_for PassesOwn.never rfl (pi_range1 rfl T.n_range (pa_cons pe_int pa_nil)) (pg_name (i := 7) sc_law.nd rfl (.inl rfl)) (pss_one (ps_if (pt_not (pt_val (pe_call G_refused (hr.mono (by decide)) rfl T.g_refused T.k_refused T.b_refused .nil pass0 (pa_cons (pv 5) (pa_cons (pe_ix ix_1 (pv 2) pe_int (fun _ _ => rfl)) (pa_cons (pv 7) pa_nil)))))) (pss_one (ps_ret pe_bl)) pss_nil)))
      (pss_cons (ps_if (PW.pt (pw_or (pt_not (pt_val (pe_call G_right (hr.mono (by decide)) rfl T.g_right T.k_right T.b_right .nil pass0 (pa_cons (pe_make T.mk_Ratio G_init (hr.mono (by decide)) rfl T.g_Ratio T.b_init .nil passL (pa_cons (pe_ix ix_1 (pv 2) pe_int (fun _ _ => rfl)) (pa_cons pe_int pa_nil))) (pa_cons (pe_tup (pa_cons (pe_ix ix_1 (pv 2) pe_int (fun _ _ => rfl)) (pa_cons pe_int pa_nil))) pa_nil))))) (pw_or1 (pt_not (pt_val (pe_call G_right (hr.mono (by decide)) rfl T.g_right T.k_right T.b_right .nil pass0 (pa_cons (pe_make T.mk_Ratio G_init (hr.mono (by decide)) rfl T.g_Ratio T.b_init .nil passL (pa_cons (pe_ix ix_1 (pv 2) pe_int (fun _ _ => rfl)) (pa_cons (pe_un un_neg pe_int) pa_nil))) (pa_cons (pe_tup (pa_cons (pe_un un_neg (pe_ix ix_1 (pv 2) pe_int (fun _ _ => rfl))) (pa_cons pe_int pa_nil))) pa_nil)))))))) (pss_one (ps_ret pe_bl)) pss_nil)
      (pss_cons (ps_if (PW.pt (pw_or (pt_not (pt_val (pe_call G_right (hr.mono (by decide)) rfl T.g_right T.k_right T.b_right .nil pass0 (pa_cons (pe_meth (pv 5) T.isa_Ratio.cl T.m_over G_over (hr.mono (by decide)) T.b_over .nil passL (pa_cons pe_int pa_nil)) (pa_cons (pv 2) pa_nil))))) (pw_or1 (pt_not (pt_val (pe_call G_right (hr.mono (by decide)) rfl T.g_right T.k_right T.b_right .nil pass0 (pa_cons (pe_meth (pv 5) T.isa_Ratio.cl T.m_over G_over (hr.mono (by decide)) T.b_over .nil passL (pa_cons (pe_un un_neg pe_int) pa_nil)) (pa_cons (pe_tup (pa_cons (pe_un un_neg (pe_ix ix_1 (pv 2) pe_int (fun _ _ => rfl))) (pa_cons (pe_ix ix_1 (pv 2) pe_int (fun _ _ => rfl)) pa_nil))) pa_nil)))))))) (pss_one (ps_ret pe_bl)) pss_nil)
      (pss_cons (ps_if (PW.pt (pw_or (pt_not (pt_val (pe_call G_right (hr.mono (by decide)) rfl T.g_right T.k_right T.b_right .nil pass0 (pa_cons (pv 5) (pa_cons (pv 2) pa_nil))))) (pw_or1 (pt_not (pt_val (pe_call G_right (hr.mono (by decide)) rfl T.g_right T.k_right T.b_right .nil pass0 (pa_cons (pv 6) (pa_cons (pv 3) pa_nil)))))))) (pss_one (ps_ret pe_bl)) pss_nil)
      (pss_one (ps_ret (pe_call G_right (hr.mono (by decide)) rfl T.g_right T.k_right T.b_right .nil pass0 (pa_cons (pe_op (op_own2 T.o_add G_add (hr.mono (by decide)) T.b_add pass0) (pv 5) (pv 6)) (pa_cons (pe_tup (pa_cons (pe_op op_add (pe_op op_mulI (pe_ix ix_1 (pv 2) pe_int (fun _ _ => rfl)) (pe_ix ix_1 (pv 3) pe_int (fun _ _ => rfl))) (pe_op op_mulI (pe_ix ix_1 (pv 3) pe_int (fun _ _ => rfl)) (pe_ix ix_1 (pv 2) pe_int (fun _ _ => rfl)))) (pa_cons (pe_op op_mulI (pe_ix ix_1 (pv 2) pe_int (fun _ _ => rfl)) (pe_ix ix_1 (pv 3) pe_int (fun _ _ => rfl))) pa_nil))) pa_nil))))))))))))))))))
end
end SpX

set_option Elab.async false
set_option linter.all false
set_option maxRecDepth 100000
set_option maxHeartbeats 4000000
namespace SpX
open PySem PySem.Spec L2
theorem kit_ref {K : PySem.W.Frag} {t : Value} {c : Addr} {b : Bool} (ne : t ≠ .ref c) (hd : PySem.W.hasDictIn K c = true) (ht : PySem.W.typeIn K (.ref c) = some (.type "type")) (hs : PySem.W.subIn K t (.ref c) = some b) : PySem.W.kitOne K t (.ref c) = some b := by
  obtain ⟨cd, hc, _⟩ := PySem.W.any_some hd
  have e1 : (t == Value.ref c) = false := Bool.eq_false_iff.mpr fun q => ne (beq_iff_eq.mp q)
  have e2 : ((PySem.W.clsIn K c).isSome && PySem.W.typeIn K (.ref c) == some (.type "type")) = true := by rw [hc, ht] <;> rfl
  unfold PySem.W.kitOne PySem.W.kitCls
  rw [e1, if_neg (by decide)]
  show (if ((PySem.W.clsIn K c).isSome && PySem.W.typeIn K (.ref c) == some (.type "type")) = true then PySem.W.subIn K t (.ref c) else none) = some b
  rw [if_pos e2]
  exact hs
theorem kit_tyr {K : PySem.W.Frag} {c : Addr} {T : String} {b : Bool} (hm : PySem.W.kitMeta T = true) (hs : PySem.W.subIn K (.ref c) (.type T) = some b) : PySem.W.kitOne K (.ref c) (.type T) = some b := by
  have e1 : (Value.ref c == Value.type T) = false := Bool.eq_false_iff.mpr fun q => by cases beq_iff_eq.mp q
  unfold PySem.W.kitOne PySem.W.kitCls
  rw [e1, if_neg (by decide)]
  show (if PySem.W.kitMeta T = true then PySem.W.subIn K (.ref c) (.type T) else none) = some b
  rw [if_pos hm]
  exact hs
theorem kit_other {K : PySem.W.Frag} {z c : Addr} (hz : PySem.W.subIn K (.ref z) (.ref z) = some true) (hs : PySem.W.subIn K (.ref z) (.ref c) = some false) (hd : PySem.W.hasDictIn K c = true) (ht : PySem.W.typeIn K (.ref c) = some (.type "type")) : PySem.W.kitOne K (.ref z) (.ref c) = some false :=
  kit_ref (fun e => by
    cases e
    rw [hz] at hs
    cases hs) hd ht hs
theorem all_mk {P : Program} {w : World} {K : PySem.W.Frag} {h : Heap} {mg : Str → Option Value} {fa C Z BN TL SE dT : Addr} {odT : Option Addr} {ocT : Value} {slT : Array (Option Value)} {nT : Nat} {tkT : Tok}
    {f_pool : Addr} {od_pool an_pool : Option Addr} {sl_pool : Array (Option Value)} {oc_pool kV_pool dc_pool pm_pool cd_pool ct_pool : Value}
    {f_take : Addr} {od_take an_take : Option Addr} {sl_take : Array (Option Value)} {oc_take kV_take dc_take pm_take cd_take ct_take : Value}
    {f_integer : Addr} {od_integer an_integer : Option Addr} {sl_integer : Array (Option Value)} {oc_integer kV_integer dc_integer pm_integer cd_integer ct_integer : Value}
    {f_common : Addr} {od_common an_common : Option Addr} {sl_common : Array (Option Value)} {oc_common kV_common dc_common pm_common cd_common ct_common : Value}
    {f_init : Addr} {od_init an_init : Option Addr} {sl_init : Array (Option Value)} {oc_init kV_init dc_init pm_init cd_init ct_init : Value}
    {f_add : Addr} {od_add an_add : Option Addr} {sl_add : Array (Option Value)} {oc_add kV_add dc_add pm_add cd_add ct_add : Value}
    {f_sub : Addr} {od_sub an_sub : Option Addr} {sl_sub : Array (Option Value)} {oc_sub kV_sub dc_sub pm_sub cd_sub ct_sub : Value}
    {f_mul : Addr} {od_mul an_mul : Option Addr} {sl_mul : Array (Option Value)} {oc_mul kV_mul dc_mul pm_mul cd_mul ct_mul : Value}
    {f_neg : Addr} {od_neg an_neg : Option Addr} {sl_neg : Array (Option Value)} {oc_neg kV_neg dc_neg pm_neg cd_neg ct_neg : Value}
    {f_radd : Addr} {od_radd an_radd : Option Addr} {sl_radd : Array (Option Value)} {oc_radd kV_radd dc_radd pm_radd cd_radd ct_radd : Value}
    {f_rsub : Addr} {od_rsub an_rsub : Option Addr} {sl_rsub : Array (Option Value)} {oc_rsub kV_rsub dc_rsub pm_rsub cd_rsub ct_rsub : Value}
    {f_rmul : Addr} {od_rmul an_rmul : Option Addr} {sl_rmul : Array (Option Value)} {oc_rmul kV_rmul dc_rmul pm_rmul cd_rmul ct_rmul : Value}
    {f_abs : Addr} {od_abs an_abs : Option Addr} {sl_abs : Array (Option Value)} {oc_abs kV_abs dc_abs pm_abs cd_abs ct_abs : Value}
    {f_eq : Addr} {od_eq an_eq : Option Addr} {sl_eq : Array (Option Value)} {oc_eq kV_eq dc_eq pm_eq cd_eq ct_eq : Value}
    {f_bool : Addr} {od_bool an_bool : Option Addr} {sl_bool : Array (Option Value)} {oc_bool kV_bool dc_bool pm_bool cd_bool ct_bool : Value}
    {f_over : Addr} {od_over an_over : Option Addr} {sl_over : Array (Option Value)} {oc_over kV_over dc_over pm_over cd_over ct_over : Value}
    {f_sign : Addr} {od_sign an_sign : Option Addr} {sl_sign : Array (Option Value)} {oc_sign kV_sign dc_sign pm_sign cd_sign ct_sign : Value}
    {f_compare : Addr} {od_compare an_compare : Option Addr} {sl_compare : Array (Option Value)} {oc_compare kV_compare dc_compare pm_compare cd_compare ct_compare : Value}
    {f_size : Addr} {od_size an_size : Option Addr} {sl_size : Array (Option Value)} {oc_size kV_size dc_size pm_size cd_size ct_size : Value}
    {f_fraction : Addr} {od_fraction an_fraction : Option Addr} {sl_fraction : Array (Option Value)} {oc_fraction kV_fraction dc_fraction pm_fraction cd_fraction ct_fraction : Value}
    {f_second : Addr} {od_second an_second : Option Addr} {sl_second : Array (Option Value)} {oc_second kV_second dc_second pm_second cd_second ct_second : Value}
    {f_beside : Addr} {od_beside an_beside : Option Addr} {sl_beside : Array (Option Value)} {oc_beside kV_beside dc_beside pm_beside cd_beside ct_beside : Value}
    {f_right : Addr} {od_right an_right : Option Addr} {sl_right : Array (Option Value)} {oc_right kV_right dc_right pm_right cd_right ct_right : Value}
    {f_results : Addr} {od_results an_results : Option Addr} {sl_results : Array (Option Value)} {oc_results kV_results dc_results pm_results cd_results ct_results : Value}
    {f_side : Addr} {od_side an_side : Option Addr} {sl_side : Array (Option Value)} {oc_side kV_side dc_side pm_side cd_side ct_side : Value}
    {f_signs : Addr} {od_signs an_signs : Option Addr} {sl_signs : Array (Option Value)} {oc_signs kV_signs dc_signs pm_signs cd_signs ct_signs : Value}
    {f_compared : Addr} {od_compared an_compared : Option Addr} {sl_compared : Array (Option Value)} {oc_compared kV_compared dc_compared pm_compared cd_compared ct_compared : Value}
    {f_refused : Addr} {od_refused an_refused : Option Addr} {sl_refused : Array (Option Value)} {oc_refused kV_refused dc_refused pm_refused cd_refused ct_refused : Value}
    {f_law : Addr} {od_law an_law : Option Addr} {sl_law : Array (Option Value)} {oc_law kV_law dc_law pm_law cd_law ct_law : Value}
    (X : K.In h) (G : h.Ns mainGlobals mg) (hfa : mg "law" = some (.ref fa))
    (gC : PySem.W.nsIn K mainGlobals "Ratio" = some (some (.ref C)))
    (gZ : PySem.W.nsIn K mainGlobals "ZeroDivisor" = some (some (.ref Z)))
    (gBN : PySem.W.nsIn K mainGlobals "BadNumber" = some (some (.ref BN)))
    (gTL : PySem.W.nsIn K mainGlobals "TooLarge" = some (some (.ref TL)))
    (gSE : PySem.W.nsIn K mainGlobals "SpotError" = some (some (.ref SE)))
    (n_len : PySem.W.nsIn K mainGlobals "len" = some none)
    (n_abs : PySem.W.nsIn K mainGlobals "abs" = some none)
    (n_int : PySem.W.nsIn K mainGlobals "int" = some none)
    (n_list : PySem.W.nsIn K mainGlobals "list" = some none)
    (n_bool : PySem.W.nsIn K mainGlobals "bool" = some none)
    (n_max : PySem.W.nsIn K mainGlobals "max" = some none)
    (n_isinstance : PySem.W.nsIn K mainGlobals "isinstance" = some none)
    (n_range : PySem.W.nsIn K mainGlobals "range" = some none)
    (n_ValueError : PySem.W.nsIn K mainGlobals "ValueError" = some none)
    (ggcd : PySem.W.nsIn K mainGlobals "gcd" = some (some (.builtin "math.gcd")))
    (pg : PySem.W.plainGet K C Str.empty = true)
    (hd : PySem.W.hasDictIn K C = true)
    (po : PySem.W.plainOver K C = true)
    (sa : PySem.W.findIn K (.ref C) "__setattr__" = some (some (.builtin "object.__setattr__")))
    (ca : PySem.W.findIn K (.ref C) "__class__" = some (some (.builtin "object.__class__")))
    (cn : PySem.W.specialIn K (.builtin "object.__class__") "__get__" = some (some (.builtin "getset_descriptor.__get__")))
    (ct : PySem.W.takesIn K (.builtin "object.__class__") = some true)
    (cm : PySem.W.mroIn K C (.type "object") = some true)
    (tC : PySem.W.typeIn K (.ref C) = some (.type "type"))
    (nat : PySem.W.findIn K (.ref C) "top" = some none)
    (nab : PySem.W.findIn K (.ref C) "bottom" = some none)
    (mk : PySem.W.makesIn K C = true)
    (kC : PySem.W.keepIn K (.ref C) = true)
    (sf : PySem.W.selfFirst K C = true)
    (su1 : PySem.W.subIn K (.type "int") (.ref C) = some false)
    (su2 : PySem.W.subIn K (.ref C) (.type "int") = some false)
    (b1_add : PySem.W.findIn K (.type "int") "__add__" = some (some (.builtin "int.__add__")))
    (b2_add : PySem.W.findIn K (.type "int") "__radd__" = some (some (.builtin "int.__radd__")))
    (b1_sub : PySem.W.findIn K (.type "int") "__sub__" = some (some (.builtin "int.__sub__")))
    (b2_sub : PySem.W.findIn K (.type "int") "__rsub__" = some (some (.builtin "int.__rsub__")))
    (b1_mul : PySem.W.findIn K (.type "int") "__mul__" = some (some (.builtin "int.__mul__")))
    (b2_mul : PySem.W.findIn K (.type "int") "__rmul__" = some (some (.builtin "int.__rmul__")))
    (xZ : PySem.W.excIn K Z [.type "ValueError", .type "Exception", .type "BaseException", .type "object"] "ValueError.__new__" = true)
    (kZ : PySem.W.keepIn K (.ref Z) = true)
    (bZ : PySem.W.subIn K (.ref Z) (.type "BaseException") = some true)
    (tZ : PySem.W.typeIn K (.ref Z) = some (.type "type"))
    (zg : PySem.W.findIn K (.ref Z) "__getattribute__" = some (some (.builtin "BaseException.__getattribute__")))
    (zk : PySem.W.findIn K (.ref Z) "__getattr__" = some none)
    (zd : PySem.W.hasDictIn K Z = true)
    (za : PySem.W.findIn K (.ref Z) "__class__" = some (some (.builtin "object.__class__")))
    (zm : PySem.W.mroIn K Z (.type "object") = some true)
    (bS : PySem.W.subIn K (.ref SE) (.type "BaseException") = some true)
    (dS : PySem.W.hasDictIn K SE = true)
    (tS : PySem.W.typeIn K (.ref SE) = some (.type "type"))
    (sS : PySem.W.subIn K (.ref Z) (.ref SE) = some true)
    (sve : PySem.W.subIn K (.ref Z) (.type "ValueError") = some true)
    (szz : PySem.W.subIn K (.ref Z) (.ref Z) = some true)
    (sBN : PySem.W.subIn K (.ref Z) (.ref BN) = some false)
    (dBN : PySem.W.hasDictIn K BN = true)
    (tBN : PySem.W.typeIn K (.ref BN) = some (.type "type"))
    (sTL : PySem.W.subIn K (.ref Z) (.ref TL) = some false)
    (dTL : PySem.W.hasDictIn K TL = true)
    (tTL : PySem.W.typeIn K (.ref TL) = some (.type "type"))
    (a_pool : PySem.W.nsIn K mainGlobals "_law_pool" = some (some (.ref f_pool)))
    (l_pool : K.lookup f_pool = some ⟨oc_pool, od_pool, .func (PySem.W.fnOf "_law_pool" "_law_pool" (defArgs s_pool) (defBody s_pool) (defScope s_pool) .none kV_pool dc_pool pm_pool an_pool cd_pool ct_pool), sl_pool⟩)
    (c_pool : PySem.W.codeIn K cd_pool "_law_pool" = true)
    (k_pool : PySem.W.keepIn K (.ref f_pool) = true)
    (a_take : PySem.W.nsIn K mainGlobals "_law_take" = some (some (.ref f_take)))
    (l_take : K.lookup f_take = some ⟨oc_take, od_take, .func (PySem.W.fnOf "_law_take" "_law_take" (defArgs s_take) (defBody s_take) (defScope s_take) .none kV_take dc_take pm_take an_take cd_take ct_take), sl_take⟩)
    (c_take : PySem.W.codeIn K cd_take "_law_take" = true)
    (k_take : PySem.W.keepIn K (.ref f_take) = true)
    (a_integer : PySem.W.nsIn K mainGlobals "_law_integer" = some (some (.ref f_integer)))
    (l_integer : K.lookup f_integer = some ⟨oc_integer, od_integer, .func (PySem.W.fnOf "_law_integer" "_law_integer" (defArgs s_integer) (defBody s_integer) (defScope s_integer) .none kV_integer dc_integer pm_integer an_integer cd_integer ct_integer), sl_integer⟩)
    (c_integer : PySem.W.codeIn K cd_integer "_law_integer" = true)
    (k_integer : PySem.W.keepIn K (.ref f_integer) = true)
    (a_common : PySem.W.nsIn K mainGlobals "_law_common" = some (some (.ref f_common)))
    (l_common : K.lookup f_common = some ⟨oc_common, od_common, .func (PySem.W.fnOf "_law_common" "_law_common" (defArgs s_common) (defBody s_common) (defScope s_common) .none kV_common dc_common pm_common an_common cd_common ct_common), sl_common⟩)
    (c_common : PySem.W.codeIn K cd_common "_law_common" = true)
    (k_common : PySem.W.keepIn K (.ref f_common) = true)
    (a_init : PySem.W.findIn K (.ref C) "__init__" = some (some (.ref f_init)))
    (i_init : PySem.W.isFn K (.ref f_init) = true)
    (l_init : K.lookup f_init = some ⟨oc_init, od_init, .func (PySem.W.fnOf "__init__" "Ratio.__init__" (defArgs s_init) (defBody s_init) (defScope s_init) (.ref dT) kV_init dc_init pm_init an_init cd_init ct_init), sl_init⟩)
    (c_init : PySem.W.codeIn K cd_init "Ratio.__init__" = true)
    (k_init : PySem.W.keepIn K (.ref f_init) = true)
    (a_add : PySem.W.findIn K (.ref C) "__add__" = some (some (.ref f_add)))
    (i_add : PySem.W.isFn K (.ref f_add) = true)
    (l_add : K.lookup f_add = some ⟨oc_add, od_add, .func (PySem.W.fnOf "__add__" "Ratio.__add__" (defArgs s_add) (defBody s_add) (defScope s_add) .none kV_add dc_add pm_add an_add cd_add ct_add), sl_add⟩)
    (c_add : PySem.W.codeIn K cd_add "Ratio.__add__" = true)
    (k_add : PySem.W.keepIn K (.ref f_add) = true)
    (a_sub : PySem.W.findIn K (.ref C) "__sub__" = some (some (.ref f_sub)))
    (i_sub : PySem.W.isFn K (.ref f_sub) = true)
    (l_sub : K.lookup f_sub = some ⟨oc_sub, od_sub, .func (PySem.W.fnOf "__sub__" "Ratio.__sub__" (defArgs s_sub) (defBody s_sub) (defScope s_sub) .none kV_sub dc_sub pm_sub an_sub cd_sub ct_sub), sl_sub⟩)
    (c_sub : PySem.W.codeIn K cd_sub "Ratio.__sub__" = true)
    (k_sub : PySem.W.keepIn K (.ref f_sub) = true)
    (a_mul : PySem.W.findIn K (.ref C) "__mul__" = some (some (.ref f_mul)))
    (i_mul : PySem.W.isFn K (.ref f_mul) = true)
    (l_mul : K.lookup f_mul = some ⟨oc_mul, od_mul, .func (PySem.W.fnOf "__mul__" "Ratio.__mul__" (defArgs s_mul) (defBody s_mul) (defScope s_mul) .none kV_mul dc_mul pm_mul an_mul cd_mul ct_mul), sl_mul⟩)
    (c_mul : PySem.W.codeIn K cd_mul "Ratio.__mul__" = true)
    (k_mul : PySem.W.keepIn K (.ref f_mul) = true)
    (a_neg : PySem.W.findIn K (.ref C) "__neg__" = some (some (.ref f_neg)))
    (i_neg : PySem.W.isFn K (.ref f_neg) = true)
    (l_neg : K.lookup f_neg = some ⟨oc_neg, od_neg, .func (PySem.W.fnOf "__neg__" "Ratio.__neg__" (defArgs s_neg) (defBody s_neg) (defScope s_neg) .none kV_neg dc_neg pm_neg an_neg cd_neg ct_neg), sl_neg⟩)
    (c_neg : PySem.W.codeIn K cd_neg "Ratio.__neg__" = true)
    (k_neg : PySem.W.keepIn K (.ref f_neg) = true)
    (a_radd : PySem.W.findIn K (.ref C) "__radd__" = some (some (.ref f_radd)))
    (i_radd : PySem.W.isFn K (.ref f_radd) = true)
    (l_radd : K.lookup f_radd = some ⟨oc_radd, od_radd, .func (PySem.W.fnOf "__radd__" "Ratio.__radd__" (defArgs s_radd) (defBody s_radd) (defScope s_radd) .none kV_radd dc_radd pm_radd an_radd cd_radd ct_radd), sl_radd⟩)
    (c_radd : PySem.W.codeIn K cd_radd "Ratio.__radd__" = true)
    (k_radd : PySem.W.keepIn K (.ref f_radd) = true)
    (a_rsub : PySem.W.findIn K (.ref C) "__rsub__" = some (some (.ref f_rsub)))
    (i_rsub : PySem.W.isFn K (.ref f_rsub) = true)
    (l_rsub : K.lookup f_rsub = some ⟨oc_rsub, od_rsub, .func (PySem.W.fnOf "__rsub__" "Ratio.__rsub__" (defArgs s_rsub) (defBody s_rsub) (defScope s_rsub) .none kV_rsub dc_rsub pm_rsub an_rsub cd_rsub ct_rsub), sl_rsub⟩)
    (c_rsub : PySem.W.codeIn K cd_rsub "Ratio.__rsub__" = true)
    (k_rsub : PySem.W.keepIn K (.ref f_rsub) = true)
    (a_rmul : PySem.W.findIn K (.ref C) "__rmul__" = some (some (.ref f_rmul)))
    (i_rmul : PySem.W.isFn K (.ref f_rmul) = true)
    (l_rmul : K.lookup f_rmul = some ⟨oc_rmul, od_rmul, .func (PySem.W.fnOf "__rmul__" "Ratio.__rmul__" (defArgs s_rmul) (defBody s_rmul) (defScope s_rmul) .none kV_rmul dc_rmul pm_rmul an_rmul cd_rmul ct_rmul), sl_rmul⟩)
    (c_rmul : PySem.W.codeIn K cd_rmul "Ratio.__rmul__" = true)
    (k_rmul : PySem.W.keepIn K (.ref f_rmul) = true)
    (a_abs : PySem.W.findIn K (.ref C) "__abs__" = some (some (.ref f_abs)))
    (i_abs : PySem.W.isFn K (.ref f_abs) = true)
    (l_abs : K.lookup f_abs = some ⟨oc_abs, od_abs, .func (PySem.W.fnOf "__abs__" "Ratio.__abs__" (defArgs s_abs) (defBody s_abs) (defScope s_abs) .none kV_abs dc_abs pm_abs an_abs cd_abs ct_abs), sl_abs⟩)
    (c_abs : PySem.W.codeIn K cd_abs "Ratio.__abs__" = true)
    (k_abs : PySem.W.keepIn K (.ref f_abs) = true)
    (a_eq : PySem.W.findIn K (.ref C) "__eq__" = some (some (.ref f_eq)))
    (i_eq : PySem.W.isFn K (.ref f_eq) = true)
    (l_eq : K.lookup f_eq = some ⟨oc_eq, od_eq, .func (PySem.W.fnOf "__eq__" "Ratio.__eq__" (defArgs s_eq) (defBody s_eq) (defScope s_eq) .none kV_eq dc_eq pm_eq an_eq cd_eq ct_eq), sl_eq⟩)
    (c_eq : PySem.W.codeIn K cd_eq "Ratio.__eq__" = true)
    (k_eq : PySem.W.keepIn K (.ref f_eq) = true)
    (a_bool : PySem.W.findIn K (.ref C) "__bool__" = some (some (.ref f_bool)))
    (i_bool : PySem.W.isFn K (.ref f_bool) = true)
    (l_bool : K.lookup f_bool = some ⟨oc_bool, od_bool, .func (PySem.W.fnOf "__bool__" "Ratio.__bool__" (defArgs s_bool) (defBody s_bool) (defScope s_bool) .none kV_bool dc_bool pm_bool an_bool cd_bool ct_bool), sl_bool⟩)
    (c_bool : PySem.W.codeIn K cd_bool "Ratio.__bool__" = true)
    (k_bool : PySem.W.keepIn K (.ref f_bool) = true)
    (a_over : PySem.W.findIn K (.ref C) "over" = some (some (.ref f_over)))
    (i_over : PySem.W.isFn K (.ref f_over) = true)
    (l_over : K.lookup f_over = some ⟨oc_over, od_over, .func (PySem.W.fnOf "over" "Ratio.over" (defArgs s_over) (defBody s_over) (defScope s_over) .none kV_over dc_over pm_over an_over cd_over ct_over), sl_over⟩)
    (c_over : PySem.W.codeIn K cd_over "Ratio.over" = true)
    (k_over : PySem.W.keepIn K (.ref f_over) = true)
    (a_sign : PySem.W.findIn K (.ref C) "sign" = some (some (.ref f_sign)))
    (i_sign : PySem.W.isFn K (.ref f_sign) = true)
    (l_sign : K.lookup f_sign = some ⟨oc_sign, od_sign, .func (PySem.W.fnOf "sign" "Ratio.sign" (defArgs s_sign) (defBody s_sign) (defScope s_sign) .none kV_sign dc_sign pm_sign an_sign cd_sign ct_sign), sl_sign⟩)
    (c_sign : PySem.W.codeIn K cd_sign "Ratio.sign" = true)
    (k_sign : PySem.W.keepIn K (.ref f_sign) = true)
    (a_compare : PySem.W.nsIn K mainGlobals "compare" = some (some (.ref f_compare)))
    (l_compare : K.lookup f_compare = some ⟨oc_compare, od_compare, .func (PySem.W.fnOf "compare" "compare" (defArgs s_compare) (defBody s_compare) (defScope s_compare) .none kV_compare dc_compare pm_compare an_compare cd_compare ct_compare), sl_compare⟩)
    (c_compare : PySem.W.codeIn K cd_compare "compare" = true)
    (k_compare : PySem.W.keepIn K (.ref f_compare) = true)
    (a_size : PySem.W.nsIn K mainGlobals "_law_size" = some (some (.ref f_size)))
    (l_size : K.lookup f_size = some ⟨oc_size, od_size, .func (PySem.W.fnOf "_law_size" "_law_size" (defArgs s_size) (defBody s_size) (defScope s_size) .none kV_size dc_size pm_size an_size cd_size ct_size), sl_size⟩)
    (c_size : PySem.W.codeIn K cd_size "_law_size" = true)
    (k_size : PySem.W.keepIn K (.ref f_size) = true)
    (a_fraction : PySem.W.nsIn K mainGlobals "_law_fraction" = some (some (.ref f_fraction)))
    (l_fraction : K.lookup f_fraction = some ⟨oc_fraction, od_fraction, .func (PySem.W.fnOf "_law_fraction" "_law_fraction" (defArgs s_fraction) (defBody s_fraction) (defScope s_fraction) .none kV_fraction dc_fraction pm_fraction an_fraction cd_fraction ct_fraction), sl_fraction⟩)
    (c_fraction : PySem.W.codeIn K cd_fraction "_law_fraction" = true)
    (k_fraction : PySem.W.keepIn K (.ref f_fraction) = true)
    (a_second : PySem.W.nsIn K mainGlobals "_law_second" = some (some (.ref f_second)))
    (l_second : K.lookup f_second = some ⟨oc_second, od_second, .func (PySem.W.fnOf "_law_second" "_law_second" (defArgs s_second) (defBody s_second) (defScope s_second) .none kV_second dc_second pm_second an_second cd_second ct_second), sl_second⟩)
    (c_second : PySem.W.codeIn K cd_second "_law_second" = true)
    (k_second : PySem.W.keepIn K (.ref f_second) = true)
    (a_beside : PySem.W.nsIn K mainGlobals "_law_beside" = some (some (.ref f_beside)))
    (l_beside : K.lookup f_beside = some ⟨oc_beside, od_beside, .func (PySem.W.fnOf "_law_beside" "_law_beside" (defArgs s_beside) (defBody s_beside) (defScope s_beside) .none kV_beside dc_beside pm_beside an_beside cd_beside ct_beside), sl_beside⟩)
    (c_beside : PySem.W.codeIn K cd_beside "_law_beside" = true)
    (k_beside : PySem.W.keepIn K (.ref f_beside) = true)
    (a_right : PySem.W.nsIn K mainGlobals "_law_right" = some (some (.ref f_right)))
    (l_right : K.lookup f_right = some ⟨oc_right, od_right, .func (PySem.W.fnOf "_law_right" "_law_right" (defArgs s_right) (defBody s_right) (defScope s_right) .none kV_right dc_right pm_right an_right cd_right ct_right), sl_right⟩)
    (c_right : PySem.W.codeIn K cd_right "_law_right" = true)
    (k_right : PySem.W.keepIn K (.ref f_right) = true)
    (a_results : PySem.W.nsIn K mainGlobals "_law_results" = some (some (.ref f_results)))
    (l_results : K.lookup f_results = some ⟨oc_results, od_results, .func (PySem.W.fnOf "_law_results" "_law_results" (defArgs s_results) (defBody s_results) (defScope s_results) .none kV_results dc_results pm_results an_results cd_results ct_results), sl_results⟩)
    (c_results : PySem.W.codeIn K cd_results "_law_results" = true)
    (k_results : PySem.W.keepIn K (.ref f_results) = true)
    (a_side : PySem.W.nsIn K mainGlobals "_law_side" = some (some (.ref f_side)))
    (l_side : K.lookup f_side = some ⟨oc_side, od_side, .func (PySem.W.fnOf "_law_side" "_law_side" (defArgs s_side) (defBody s_side) (defScope s_side) .none kV_side dc_side pm_side an_side cd_side ct_side), sl_side⟩)
    (c_side : PySem.W.codeIn K cd_side "_law_side" = true)
    (k_side : PySem.W.keepIn K (.ref f_side) = true)
    (a_signs : PySem.W.nsIn K mainGlobals "_law_signs" = some (some (.ref f_signs)))
    (l_signs : K.lookup f_signs = some ⟨oc_signs, od_signs, .func (PySem.W.fnOf "_law_signs" "_law_signs" (defArgs s_signs) (defBody s_signs) (defScope s_signs) .none kV_signs dc_signs pm_signs an_signs cd_signs ct_signs), sl_signs⟩)
    (c_signs : PySem.W.codeIn K cd_signs "_law_signs" = true)
    (k_signs : PySem.W.keepIn K (.ref f_signs) = true)
    (a_compared : PySem.W.nsIn K mainGlobals "_law_compared" = some (some (.ref f_compared)))
    (l_compared : K.lookup f_compared = some ⟨oc_compared, od_compared, .func (PySem.W.fnOf "_law_compared" "_law_compared" (defArgs s_compared) (defBody s_compared) (defScope s_compared) .none kV_compared dc_compared pm_compared an_compared cd_compared ct_compared), sl_compared⟩)
    (c_compared : PySem.W.codeIn K cd_compared "_law_compared" = true)
    (k_compared : PySem.W.keepIn K (.ref f_compared) = true)
    (a_refused : PySem.W.nsIn K mainGlobals "_law_refused" = some (some (.ref f_refused)))
    (l_refused : K.lookup f_refused = some ⟨oc_refused, od_refused, .func (PySem.W.fnOf "_law_refused" "_law_refused" (defArgs s_refused) (defBody s_refused) (defScope s_refused) .none kV_refused dc_refused pm_refused an_refused cd_refused ct_refused), sl_refused⟩)
    (c_refused : PySem.W.codeIn K cd_refused "_law_refused" = true)
    (k_refused : PySem.W.keepIn K (.ref f_refused) = true)
    (a_law : PySem.W.nsIn K mainGlobals "law" = some (some (.ref f_law)))
    (l_law : K.lookup f_law = some ⟨oc_law, od_law, .func (PySem.W.fnOf "law" "law" (defArgs s_law) (defBody s_law) (defScope s_law) .none kV_law dc_law pm_law an_law cd_law ct_law), sl_law⟩)
    (c_law : PySem.W.codeIn K cd_law "law" = true)
    (k_law : PySem.W.keepIn K (.ref f_law) = true)
    (lt : K.lookup dT = some ⟨ocT, odT, .seq #[.int 1 tkT] nT, slT⟩)
    : ∃ fd : FuncData, (∀ (s : Shared) (v : Value), BindsTo s fd ⟨[v], []⟩ [("script", v)]) ∧ ∀ base : Heap, K.In base → base.Ns mainGlobals mg → FnOk P w K mg base CX0 10 fa fd ["script"] (spLaw K) := by
  have e := hfa.symm.trans (PySem.W.mg_of X G a_law)
  obtain rfl : f_law = fa := by
    cases e
    rfl
  have F_pool := fun_mk (st := s_pool) l_pool c_pool k_pool
  have b_pool := F_pool.binds (ps := ["script"]) fun _ _ _ _ _ _ us hl => match us, hl with | [_], _ => rfl
  have F_take := fun_mk (st := s_take) l_take c_take k_take
  have b_take := F_take.binds (ps := ["pool", "most"]) fun _ _ _ _ _ _ us hl => match us, hl with | [_, _], _ => rfl
  have F_integer := fun_mk (st := s_integer) l_integer c_integer k_integer
  have b_integer := F_integer.binds (ps := ["thing"]) fun _ _ _ _ _ _ us hl => match us, hl with | [_], _ => rfl
  have F_common := fun_mk (st := s_common) l_common c_common k_common
  have b_common := F_common.binds (ps := ["one", "two"]) fun _ _ _ _ _ _ us hl => match us, hl with | [_, _], _ => rfl
  have F_init : FunD K "__init__" "Ratio.__init__" (defArgs s_init) (defBody s_init) (defScope s_init) [.int 1] [] f_init _ :=
    ⟨⟨oc_init, od_init, .ref dT, kV_init, dc_init, pm_init, an_init, cd_init, ct_init, sl_init, rfl, l_init, c_init, .inr ⟨by simp, dT, _, [.int 1 tkT], nT, rfl, lt, rfl, .cons ⟨tkT, rfl⟩ .nil⟩, .inl rfl⟩, k_init⟩
  obtain ⟨d0, v0, b_init⟩ := F_init.binds1 (ps := ["self", "top", "bottom"]) 3 1 (by simp) rfl fun T kV doc pm an cdv ct us its h1 h2 => match us, h1, its, h2 with | [_, _, _], _, [_], _ => ⟨_, rfl, rfl⟩
  have z0 : d0 = [] := by
    cases v0
    rfl
  subst z0
  obtain ⟨ds, v_init1, b_init1⟩ := F_init.binds1 (ps := ["self", "top", "bottom"]) 2 0 (by simp) rfl fun T kV doc pm an cdv ct us its h1 h2 => match us, h1, its, h2 with | [_, _], _, [_], _ => ⟨_, rfl, rfl⟩
  have F_add := fun_mk (st := s_add) l_add c_add k_add
  have b_add := F_add.binds (ps := ["self", "other"]) fun _ _ _ _ _ _ us hl => match us, hl with | [_, _], _ => rfl
  have F_sub := fun_mk (st := s_sub) l_sub c_sub k_sub
  have b_sub := F_sub.binds (ps := ["self", "other"]) fun _ _ _ _ _ _ us hl => match us, hl with | [_, _], _ => rfl
  have F_mul := fun_mk (st := s_mul) l_mul c_mul k_mul
  have b_mul := F_mul.binds (ps := ["self", "other"]) fun _ _ _ _ _ _ us hl => match us, hl with | [_, _], _ => rfl
  have F_neg := fun_mk (st := s_neg) l_neg c_neg k_neg
  have b_neg := F_neg.binds (ps := ["self"]) fun _ _ _ _ _ _ us hl => match us, hl with | [_], _ => rfl
  have F_radd := fun_mk (st := s_radd) l_radd c_radd k_radd
  have b_radd := F_radd.binds (ps := ["self", "other"]) fun _ _ _ _ _ _ us hl => match us, hl with | [_, _], _ => rfl
  have F_rsub := fun_mk (st := s_rsub) l_rsub c_rsub k_rsub
  have b_rsub := F_rsub.binds (ps := ["self", "other"]) fun _ _ _ _ _ _ us hl => match us, hl with | [_, _], _ => rfl
  have F_rmul := fun_mk (st := s_rmul) l_rmul c_rmul k_rmul
  have b_rmul := F_rmul.binds (ps := ["self", "other"]) fun _ _ _ _ _ _ us hl => match us, hl with | [_, _], _ => rfl
  have F_abs := fun_mk (st := s_abs) l_abs c_abs k_abs
  have b_abs := F_abs.binds (ps := ["self"]) fun _ _ _ _ _ _ us hl => match us, hl with | [_], _ => rfl
  have F_eq := fun_mk (st := s_eq) l_eq c_eq k_eq
  have b_eq := F_eq.binds (ps := ["self", "other"]) fun _ _ _ _ _ _ us hl => match us, hl with | [_, _], _ => rfl
  have F_bool := fun_mk (st := s_bool) l_bool c_bool k_bool
  have b_bool := F_bool.binds (ps := ["self"]) fun _ _ _ _ _ _ us hl => match us, hl with | [_], _ => rfl
  have F_over := fun_mk (st := s_over) l_over c_over k_over
  have b_over := F_over.binds (ps := ["self", "b"]) fun _ _ _ _ _ _ us hl => match us, hl with | [_, _], _ => rfl
  have F_sign := fun_mk (st := s_sign) l_sign c_sign k_sign
  have b_sign := F_sign.binds (ps := ["self"]) fun _ _ _ _ _ _ us hl => match us, hl with | [_], _ => rfl
  have F_compare := fun_mk (st := s_compare) l_compare c_compare k_compare
  have b_compare := F_compare.binds (ps := ["first", "second"]) fun _ _ _ _ _ _ us hl => match us, hl with | [_, _], _ => rfl
  have F_size := fun_mk (st := s_size) l_size c_size k_size
  have b_size := F_size.binds (ps := ["pool"]) fun _ _ _ _ _ _ us hl => match us, hl with | [_], _ => rfl
  have F_fraction := fun_mk (st := s_fraction) l_fraction c_fraction k_fraction
  have b_fraction := F_fraction.binds (ps := ["pool"]) fun _ _ _ _ _ _ us hl => match us, hl with | [_], _ => rfl
  have F_second := fun_mk (st := s_second) l_second c_second k_second
  have b_second := F_second.binds (ps := ["pool", "one"]) fun _ _ _ _ _ _ us hl => match us, hl with | [_, _], _ => rfl
  have F_beside := fun_mk (st := s_beside) l_beside c_beside k_beside
  have b_beside := F_beside.binds (ps := ["pool", "one"]) fun _ _ _ _ _ _ us hl => match us, hl with | [_, _], _ => rfl
  have F_right := fun_mk (st := s_right) l_right c_right k_right
  have b_right := F_right.binds (ps := ["told", "due"]) fun _ _ _ _ _ _ us hl => match us, hl with | [_, _], _ => rfl
  have F_results := fun_mk (st := s_results) l_results c_results k_results
  have b_results := F_results.binds (ps := ["first", "second", "number", "one", "two"]) fun _ _ _ _ _ _ us hl => match us, hl with | [_, _, _, _, _], _ => rfl
  have F_side := fun_mk (st := s_side) l_side c_side k_side
  have b_side := F_side.binds (ps := ["above", "below"]) fun _ _ _ _ _ _ us hl => match us, hl with | [_, _], _ => rfl
  have F_signs := fun_mk (st := s_signs) l_signs c_signs k_signs
  have b_signs := F_signs.binds (ps := ["first", "second", "one", "two"]) fun _ _ _ _ _ _ us hl => match us, hl with | [_, _, _, _], _ => rfl
  have F_compared := fun_mk (st := s_compared) l_compared c_compared k_compared
  have b_compared := F_compared.binds (ps := ["first", "second", "number", "one", "two"]) fun _ _ _ _ _ _ us hl => match us, hl with | [_, _, _, _, _], _ => rfl
  have F_refused := fun_mk (st := s_refused) l_refused c_refused k_refused
  have b_refused := F_refused.binds (ps := ["first", "above", "kind"]) fun _ _ _ _ _ _ us hl => match us, hl with | [_, _, _], _ => rfl
  have F_law := fun_mk (st := s_law) l_law c_law k_law
  have b_law := F_law.binds (ps := ["script"]) fun _ _ _ _ _ _ us hl => match us, hl with | [_], _ => rfl
  have T : Txt K mg {
      C := C,
      Z := Z,
      BN := BN,
      TL := TL,
      SE := SE,
      ds := ds,
      f_pool := f_pool,
      d_pool := PySem.W.fnOf "_law_pool" "_law_pool" (defArgs s_pool) (defBody s_pool) (defScope s_pool) .none kV_pool dc_pool pm_pool an_pool cd_pool ct_pool,
      f_take := f_take,
      d_take := PySem.W.fnOf "_law_take" "_law_take" (defArgs s_take) (defBody s_take) (defScope s_take) .none kV_take dc_take pm_take an_take cd_take ct_take,
      f_integer := f_integer,
      d_integer := PySem.W.fnOf "_law_integer" "_law_integer" (defArgs s_integer) (defBody s_integer) (defScope s_integer) .none kV_integer dc_integer pm_integer an_integer cd_integer ct_integer,
      f_common := f_common,
      d_common := PySem.W.fnOf "_law_common" "_law_common" (defArgs s_common) (defBody s_common) (defScope s_common) .none kV_common dc_common pm_common an_common cd_common ct_common,
      f_init := f_init,
      d_init := PySem.W.fnOf "__init__" "Ratio.__init__" (defArgs s_init) (defBody s_init) (defScope s_init) (.ref dT) kV_init dc_init pm_init an_init cd_init ct_init,
      f_add := f_add,
      d_add := PySem.W.fnOf "__add__" "Ratio.__add__" (defArgs s_add) (defBody s_add) (defScope s_add) .none kV_add dc_add pm_add an_add cd_add ct_add,
      f_sub := f_sub,
      d_sub := PySem.W.fnOf "__sub__" "Ratio.__sub__" (defArgs s_sub) (defBody s_sub) (defScope s_sub) .none kV_sub dc_sub pm_sub an_sub cd_sub ct_sub,
      f_mul := f_mul,
      d_mul := PySem.W.fnOf "__mul__" "Ratio.__mul__" (defArgs s_mul) (defBody s_mul) (defScope s_mul) .none kV_mul dc_mul pm_mul an_mul cd_mul ct_mul,
      f_neg := f_neg,
      d_neg := PySem.W.fnOf "__neg__" "Ratio.__neg__" (defArgs s_neg) (defBody s_neg) (defScope s_neg) .none kV_neg dc_neg pm_neg an_neg cd_neg ct_neg,
      f_radd := f_radd,
      d_radd := PySem.W.fnOf "__radd__" "Ratio.__radd__" (defArgs s_radd) (defBody s_radd) (defScope s_radd) .none kV_radd dc_radd pm_radd an_radd cd_radd ct_radd,
      f_rsub := f_rsub,
      d_rsub := PySem.W.fnOf "__rsub__" "Ratio.__rsub__" (defArgs s_rsub) (defBody s_rsub) (defScope s_rsub) .none kV_rsub dc_rsub pm_rsub an_rsub cd_rsub ct_rsub,
      f_rmul := f_rmul,
      d_rmul := PySem.W.fnOf "__rmul__" "Ratio.__rmul__" (defArgs s_rmul) (defBody s_rmul) (defScope s_rmul) .none kV_rmul dc_rmul pm_rmul an_rmul cd_rmul ct_rmul,
      f_abs := f_abs,
      d_abs := PySem.W.fnOf "__abs__" "Ratio.__abs__" (defArgs s_abs) (defBody s_abs) (defScope s_abs) .none kV_abs dc_abs pm_abs an_abs cd_abs ct_abs,
      f_eq := f_eq,
      d_eq := PySem.W.fnOf "__eq__" "Ratio.__eq__" (defArgs s_eq) (defBody s_eq) (defScope s_eq) .none kV_eq dc_eq pm_eq an_eq cd_eq ct_eq,
      f_bool := f_bool,
      d_bool := PySem.W.fnOf "__bool__" "Ratio.__bool__" (defArgs s_bool) (defBody s_bool) (defScope s_bool) .none kV_bool dc_bool pm_bool an_bool cd_bool ct_bool,
      f_over := f_over,
      d_over := PySem.W.fnOf "over" "Ratio.over" (defArgs s_over) (defBody s_over) (defScope s_over) .none kV_over dc_over pm_over an_over cd_over ct_over,
      f_sign := f_sign,
      d_sign := PySem.W.fnOf "sign" "Ratio.sign" (defArgs s_sign) (defBody s_sign) (defScope s_sign) .none kV_sign dc_sign pm_sign an_sign cd_sign ct_sign,
      f_compare := f_compare,
      d_compare := PySem.W.fnOf "compare" "compare" (defArgs s_compare) (defBody s_compare) (defScope s_compare) .none kV_compare dc_compare pm_compare an_compare cd_compare ct_compare,
      f_size := f_size,
      d_size := PySem.W.fnOf "_law_size" "_law_size" (defArgs s_size) (defBody s_size) (defScope s_size) .none kV_size dc_size pm_size an_size cd_size ct_size,
      f_fraction := f_fraction,
      d_fraction := PySem.W.fnOf "_law_fraction" "_law_fraction" (defArgs s_fraction) (defBody s_fraction) (defScope s_fraction) .none kV_fraction dc_fraction pm_fraction an_fraction cd_fraction ct_fraction,
      f_second := f_second,
      d_second := PySem.W.fnOf "_law_second" "_law_second" (defArgs s_second) (defBody s_second) (defScope s_second) .none kV_second dc_second pm_second an_second cd_second ct_second,
      f_beside := f_beside,
      d_beside := PySem.W.fnOf "_law_beside" "_law_beside" (defArgs s_beside) (defBody s_beside) (defScope s_beside) .none kV_beside dc_beside pm_beside an_beside cd_beside ct_beside,
      f_right := f_right,
      d_right := PySem.W.fnOf "_law_right" "_law_right" (defArgs s_right) (defBody s_right) (defScope s_right) .none kV_right dc_right pm_right an_right cd_right ct_right,
      f_results := f_results,
      d_results := PySem.W.fnOf "_law_results" "_law_results" (defArgs s_results) (defBody s_results) (defScope s_results) .none kV_results dc_results pm_results an_results cd_results ct_results,
      f_side := f_side,
      d_side := PySem.W.fnOf "_law_side" "_law_side" (defArgs s_side) (defBody s_side) (defScope s_side) .none kV_side dc_side pm_side an_side cd_side ct_side,
      f_signs := f_signs,
      d_signs := PySem.W.fnOf "_law_signs" "_law_signs" (defArgs s_signs) (defBody s_signs) (defScope s_signs) .none kV_signs dc_signs pm_signs an_signs cd_signs ct_signs,
      f_compared := f_compared,
      d_compared := PySem.W.fnOf "_law_compared" "_law_compared" (defArgs s_compared) (defBody s_compared) (defScope s_compared) .none kV_compared dc_compared pm_compared an_compared cd_compared ct_compared,
      f_refused := f_refused,
      d_refused := PySem.W.fnOf "_law_refused" "_law_refused" (defArgs s_refused) (defBody s_refused) (defScope s_refused) .none kV_refused dc_refused pm_refused an_refused cd_refused ct_refused,
      f_law := f_law,
      d_law := PySem.W.fnOf "law" "law" (defArgs s_law) (defBody s_law) (defScope s_law) .none kV_law dc_law pm_law an_law cd_law ct_law } :=
    {
      isa_Ratio := ⟨⟨pg, hd, po, sa⟩, ca, cn, ct, cm, kit_tyr (by decide +kernel) su2, kit_ref (fun e => by cases e) hd tC su1⟩,
      na_top := nat,
      na_bottom := nab,
      g_Ratio := PySem.W.mg_of X G gC,
      mk_Ratio := ⟨mk, a_init, i_init, kC⟩,
      v_init1 := v_init1,
      b_init1 := b_init1,
      F_init := F_init,
      b_init := b_init,
      m_over := ⟨a_over, i_over, k_over⟩,
      m_sign := ⟨a_sign, i_sign, k_sign⟩,
      g_gcd := PySem.W.mg_of X G ggcd,
      xZ := xZ,
      gZ := PySem.W.mg_of X G gZ,
      kZ := kZ,
      bZ := bZ,
      tZ := tZ,
      g_BadNumber := PySem.W.mg_of X G gBN,
      g_TooLarge := PySem.W.mg_of X G gTL,
      g_SpotError := PySem.W.mg_of X G gSE,
      exc := ⟨⟨zg, zk, bZ, zd, za, cn, ct, zm⟩, PySem.W.exm_ref bS dS tS sS, kit_tyr (by decide +kernel) sve, kit_other szz sBN dBN tBN, kit_other szz sTL dTL tTL⟩,
      o_eq := ⟨a_eq, i_eq, su1, su2⟩,
      n_len := PySem.W.mg_none_of X G n_len,
      n_abs := PySem.W.mg_none_of X G n_abs,
      n_int := PySem.W.mg_none_of X G n_int,
      n_list := PySem.W.mg_none_of X G n_list,
      n_bool := PySem.W.mg_none_of X G n_bool,
      n_max := PySem.W.mg_none_of X G n_max,
      n_isinstance := PySem.W.mg_none_of X G n_isinstance,
      n_range := PySem.W.mg_none_of X G n_range,
      n_ValueError := PySem.W.mg_none_of X G n_ValueError,
      o_add := ⟨a_add, i_add, sf⟩,
      i_add := ⟨⟨_, a_radd, .inr ⟨_, rfl⟩⟩, ⟨_, b1_add⟩, ⟨_, b2_add⟩, su1⟩,
      o_radd := ⟨⟨_, a_add⟩, a_radd, i_radd, sf, ⟨_, b1_add, by decide +kernel⟩, ⟨_, b2_add⟩, su2⟩,
      o_sub := ⟨a_sub, i_sub, sf⟩,
      i_sub := ⟨⟨_, a_rsub, .inr ⟨_, rfl⟩⟩, ⟨_, b1_sub⟩, ⟨_, b2_sub⟩, su1⟩,
      o_rsub := ⟨⟨_, a_sub⟩, a_rsub, i_rsub, sf, ⟨_, b1_sub, by decide +kernel⟩, ⟨_, b2_sub⟩, su2⟩,
      o_mul := ⟨a_mul, i_mul, sf⟩,
      i_mul := ⟨⟨_, a_rmul, .inr ⟨_, rfl⟩⟩, ⟨_, b1_mul⟩, ⟨_, b2_mul⟩, su1⟩,
      o_rmul := ⟨⟨_, a_mul⟩, a_rmul, i_rmul, sf, ⟨_, b1_mul, by decide +kernel⟩, ⟨_, b2_mul⟩, su2⟩,
      o_neg := a_neg,
      i_neg := i_neg,
      o_abs := a_abs,
      i_abs := i_abs,
      o_bool := a_bool,
      i_bool := i_bool,
      F_pool := F_pool,
      b_pool := b_pool,
      g_pool := PySem.W.mg_of X G a_pool,
      k_pool := k_pool,
      F_take := F_take,
      b_take := b_take,
      g_take := PySem.W.mg_of X G a_take,
      k_take := k_take,
      F_integer := F_integer,
      b_integer := b_integer,
      g_integer := PySem.W.mg_of X G a_integer,
      k_integer := k_integer,
      F_common := F_common,
      b_common := b_common,
      g_common := PySem.W.mg_of X G a_common,
      k_common := k_common,
      F_add := F_add,
      b_add := b_add,
      F_sub := F_sub,
      b_sub := b_sub,
      F_mul := F_mul,
      b_mul := b_mul,
      F_neg := F_neg,
      b_neg := b_neg,
      F_radd := F_radd,
      b_radd := b_radd,
      F_rsub := F_rsub,
      b_rsub := b_rsub,
      F_rmul := F_rmul,
      b_rmul := b_rmul,
      F_abs := F_abs,
      b_abs := b_abs,
      F_eq := F_eq,
      b_eq := b_eq,
      F_bool := F_bool,
      b_bool := b_bool,
      F_over := F_over,
      b_over := b_over,
      F_sign := F_sign,
      b_sign := b_sign,
      F_compare := F_compare,
      b_compare := b_compare,
      g_compare := PySem.W.mg_of X G a_compare,
      k_compare := k_compare,
      F_size := F_size,
      b_size := b_size,
      g_size := PySem.W.mg_of X G a_size,
      k_size := k_size,
      F_fraction := F_fraction,
      b_fraction := b_fraction,
      g_fraction := PySem.W.mg_of X G a_fraction,
      k_fraction := k_fraction,
      F_second := F_second,
      b_second := b_second,
      g_second := PySem.W.mg_of X G a_second,
      k_second := k_second,
      F_beside := F_beside,
      b_beside := b_beside,
      g_beside := PySem.W.mg_of X G a_beside,
      k_beside := k_beside,
      F_right := F_right,
      b_right := b_right,
      g_right := PySem.W.mg_of X G a_right,
      k_right := k_right,
      F_results := F_results,
      b_results := b_results,
      g_results := PySem.W.mg_of X G a_results,
      k_results := k_results,
      F_side := F_side,
      b_side := b_side,
      g_side := PySem.W.mg_of X G a_side,
      k_side := k_side,
      F_signs := F_signs,
      b_signs := b_signs,
      g_signs := PySem.W.mg_of X G a_signs,
      k_signs := k_signs,
      F_compared := F_compared,
      b_compared := b_compared,
      g_compared := PySem.W.mg_of X G a_compared,
      k_compared := k_compared,
      F_refused := F_refused,
      b_refused := b_refused,
      g_refused := PySem.W.mg_of X G a_refused,
      k_refused := k_refused,
      F_law := F_law,
      b_law := b_law,
      g_law := PySem.W.mg_of X G a_law,
      k_law := k_law }
  exact ⟨_, fun s v => .of_eq rfl, fun base _ _ => ok_law T⟩
theorem walk {l : PySem.W.OpenLaw} {q : Program} {loose : List Str} {XP : (Str → Option Value) → Heap → Prop} {YP : World → Heap → Prop} {d : DefRec} {K : Params → PySem.W.Frag} (hn : l.most = some 63) (hdf : d.params.defaults = [])
    (hY : ∀ (w : World) (h : Heap), YP w h → (K w.params).In h)
    (F : ∀ (w : World) (mg : Str → Option Value) (fa : Addr) (h : Heap), (K w.params).In h → h.Ns mainGlobals mg → mg d.name = some (.ref fa) →
      ∃ fd : FuncData, (∀ (s : Shared) (u : Value), BindsTo s fd ⟨[u], []⟩ [("script", u)]) ∧ ∀ base : Heap, (K w.params).In base → base.Ns mainGlobals mg → FnOk l.prog w (K w.params) mg base CX0 10 fa fd ["script"] (spLaw (K w.params))) :
    PySem.W.WalkO q loose XP YP l.row.toRowW d [] (fun f vs => PySem.call f vs) :=
  L2.walk_of (n := 63) (k := 10) (x := "script") (CX := fun _ => CX0) (sp := fun w => spLaw (K w.params)) hn (by decide) hdf ⟨rfl, by decide, by decide⟩ hY F (fun _ _ a ns hl _ hS => ⟨a, ns, rfl, hS, hl, fun _ => rfl⟩) fun _ _ _ _ _ z => z
end SpX

set_option Elab.async false
open PySem PySem.W PyProof.Rows
set_option maxRecDepth 100000 in
set_option maxHeartbeats 0 in
theorem PySem.Challenge.cw_spotheights_k00_ratios_are_exact_holds : PySem.Challenge.rw_spotheights_k00_ratios_are_exact.Holds := by
  w_on; o_law; k_head; (case hw => w_witness2)
  k_fill
  refine SpX.walk (l := PySem.Challenge.rw_spotheights_k00_ratios_are_exact) rfl rfl (fun w h Y => PySem.W.kIn_of Y) ?F
  case F =>
    intro w mg fa h KX G hmg
    refine' SpX.all_mk KX G hmg ?gC ?gZ ?gBN ?gTL ?gSE ?n_len ?n_abs ?n_int ?n_list ?n_bool ?n_max ?n_isinstance ?n_range ?n_ValueError ?ggcd ?pg ?hd ?po ?sa ?ca ?cn ?ct ?cm ?tC ?nat ?nab ?mk ?kC ?sf ?su1 ?su2 ?b1_add ?b2_add ?b1_sub ?b2_sub ?b1_mul ?b2_mul ?xZ ?kZ ?bZ ?tZ ?zg ?zk ?zd ?za ?zm ?bS ?dS ?tS ?sS ?sve ?szz ?sBN ?dBN ?tBN ?sTL ?dTL ?tTL ?a_pool ?l_pool ?c_pool ?k_pool ?a_take ?l_take ?c_take ?k_take ?a_integer ?l_integer ?c_integer ?k_integer ?a_common ?l_common ?c_common ?k_common ?a_init ?i_init ?l_init ?c_init ?k_init ?a_add ?i_add ?l_add ?c_add ?k_add ?a_sub ?i_sub ?l_sub ?c_sub ?k_sub ?a_mul ?i_mul ?l_mul ?c_mul ?k_mul ?a_neg ?i_neg ?l_neg ?c_neg ?k_neg ?a_radd ?i_radd ?l_radd ?c_radd ?k_radd ?a_rsub ?i_rsub ?l_rsub ?c_rsub ?k_rsub ?a_rmul ?i_rmul ?l_rmul ?c_rmul ?k_rmul ?a_abs ?i_abs ?l_abs ?c_abs ?k_abs ?a_eq ?i_eq ?l_eq ?c_eq ?k_eq ?a_bool ?i_bool ?l_bool ?c_bool ?k_bool ?a_over ?i_over ?l_over ?c_over ?k_over ?a_sign ?i_sign ?l_sign ?c_sign ?k_sign ?a_compare ?l_compare ?c_compare ?k_compare ?a_size ?l_size ?c_size ?k_size ?a_fraction ?l_fraction ?c_fraction ?k_fraction ?a_second ?l_second ?c_second ?k_second ?a_beside ?l_beside ?c_beside ?k_beside ?a_right ?l_right ?c_right ?k_right ?a_results ?l_results ?c_results ?k_results ?a_side ?l_side ?c_side ?k_side ?a_signs ?l_signs ?c_signs ?k_signs ?a_compared ?l_compared ?c_compared ?k_compared ?a_refused ?l_refused ?c_refused ?k_refused ?a_law ?l_law ?c_law ?k_law ?lt
    (case gC => k_is)
    (case gZ => k_is)
    (case gBN => k_is)
    (case gTL => k_is)
    (case gSE => k_is)
    (case n_len => k_is)
    (case n_abs => k_is)
    (case n_int => k_is)
    (case n_list => k_is)
    (case n_bool => k_is)
    (case n_max => k_is)
    (case n_isinstance => k_is)
    (case n_range => k_is)
    (case n_ValueError => k_is)
    (case ggcd => k_is)
    (case pg => k_is)
    (case hd => k_is)
    (case po => k_is)
    (case sa => k_is)
    (case ca => k_is)
    (case cn => k_is)
    (case ct => k_is)
    (case cm => k_is)
    (case tC => k_is)
    (case nat => k_is)
    (case nab => k_is)
    (case mk => k_is)
    (case kC => k_is)
    (case sf => k_is)
    (case su1 => k_is)
    (case su2 => k_is)
    (case b1_add => k_is)
    (case b2_add => k_is)
    (case b1_sub => k_is)
    (case b2_sub => k_is)
    (case b1_mul => k_is)
    (case b2_mul => k_is)
    (case xZ => k_exc)
    (case kZ => k_is)
    (case bZ => k_is)
    (case tZ => k_is)
    (case zg => k_is)
    (case zk => k_is)
    (case zd => k_is)
    (case za => k_is)
    (case zm => k_is)
    (case bS => k_is)
    (case dS => k_is)
    (case tS => k_is)
    (case sS => k_is)
    (case sve => k_is)
    (case szz => first | rfl | k_is)
    (case sBN => k_is)
    (case dBN => k_is)
    (case tBN => k_is)
    (case sTL => k_is)
    (case dTL => k_is)
    (case tTL => k_is)
    (case a_pool => k_is)
    (case l_pool => k_is)
    (case c_pool => k_is)
    (case k_pool => k_is)
    (case a_take => k_is)
    (case l_take => k_is)
    (case c_take => k_is)
    (case k_take => k_is)
    (case a_integer => k_is)
    (case l_integer => k_is)
    (case c_integer => k_is)
    (case k_integer => k_is)
    (case a_common => k_is)
    (case l_common => k_is)
    (case c_common => k_is)
    (case k_common => k_is)
    (case a_init => k_is)
    (case i_init => k_is)
    (case l_init => k_is)
    (case c_init => k_is)
    (case k_init => k_is)
    (case a_add => k_is)
    (case i_add => k_is)
    (case l_add => k_is)
    (case c_add => k_is)
    (case k_add => k_is)
    (case a_sub => k_is)
    (case i_sub => k_is)
    (case l_sub => k_is)
    (case c_sub => k_is)
    (case k_sub => k_is)
    (case a_mul => k_is)
    (case i_mul => k_is)
    (case l_mul => k_is)
    (case c_mul => k_is)
    (case k_mul => k_is)
    (case a_neg => k_is)
    (case i_neg => k_is)
    (case l_neg => k_is)
    (case c_neg => k_is)
    (case k_neg => k_is)
    (case a_radd => k_is)
    (case i_radd => k_is)
    (case l_radd => k_is)
    (case c_radd => k_is)
    (case k_radd => k_is)
    (case a_rsub => k_is)
    (case i_rsub => k_is)
    (case l_rsub => k_is)
    (case c_rsub => k_is)
    (case k_rsub => k_is)
    (case a_rmul => k_is)
    (case i_rmul => k_is)
    (case l_rmul => k_is)
    (case c_rmul => k_is)
    (case k_rmul => k_is)
    (case a_abs => k_is)
    (case i_abs => k_is)
    (case l_abs => k_is)
    (case c_abs => k_is)
    (case k_abs => k_is)
    (case a_eq => k_is)
    (case i_eq => k_is)
    (case l_eq => k_is)
    (case c_eq => k_is)
    (case k_eq => k_is)
    (case a_bool => k_is)
    (case i_bool => k_is)
    (case l_bool => k_is)
    (case c_bool => k_is)
    (case k_bool => k_is)
    (case a_over => k_is)
    (case i_over => k_is)
    (case l_over => k_is)
    (case c_over => k_is)
    (case k_over => k_is)
    (case a_sign => k_is)
    (case i_sign => k_is)
    (case l_sign => k_is)
    (case c_sign => k_is)
    (case k_sign => k_is)
    (case a_compare => k_is)
    (case l_compare => k_is)
    (case c_compare => k_is)
    (case k_compare => k_is)
    (case a_size => k_is)
    (case l_size => k_is)
    (case c_size => k_is)
    (case k_size => k_is)
    (case a_fraction => k_is)
    (case l_fraction => k_is)
    (case c_fraction => k_is)
    (case k_fraction => k_is)
    (case a_second => k_is)
    (case l_second => k_is)
    (case c_second => k_is)
    (case k_second => k_is)
    (case a_beside => k_is)
    (case l_beside => k_is)
    (case c_beside => k_is)
    (case k_beside => k_is)
    (case a_right => k_is)
    (case l_right => k_is)
    (case c_right => k_is)
    (case k_right => k_is)
    (case a_results => k_is)
    (case l_results => k_is)
    (case c_results => k_is)
    (case k_results => k_is)
    (case a_side => k_is)
    (case l_side => k_is)
    (case c_side => k_is)
    (case k_side => k_is)
    (case a_signs => k_is)
    (case l_signs => k_is)
    (case c_signs => k_is)
    (case k_signs => k_is)
    (case a_compared => k_is)
    (case l_compared => k_is)
    (case c_compared => k_is)
    (case k_compared => k_is)
    (case a_refused => k_is)
    (case l_refused => k_is)
    (case c_refused => k_is)
    (case k_refused => k_is)
    (case a_law => k_is)
    (case l_law => k_is)
    (case c_law => k_is)
    (case k_law => k_is)
    (case lt => k_is)

