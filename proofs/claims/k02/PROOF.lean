import PyProof.Rows.All
import Wide.All
import OpenK.AllK
import Wide.FinOn
import HandS.ForMost
import HandS.ForExc
import HandS.Wide
import HandS.WideBits
import HandS.Gcd
import HandS.IsInst
import HandS.ExcIs
import HandS.Codes
import HandS.Defaults
import KE.KOpsOwn
import HandS.OwnEq
import PyProof.Rows.Range3
import HandS.List
import HandS.Words
import HandS.WordsExc
import HandS.TupLen
import KE.KMathGC
import PyProof.WalksMore
import PyProof.SumWalkG
import HandS.Comp
import HandS.Iter
import HandS.Zip
import HandS.Star
import HandS.GenBody
import HandS.GenYield
import HandS.GenCall
import HandS.GenList
import PyProof.GenComp
import HandS.ExcOwn
import PySem.Challenge.RW_spotheights_k02_monomials_in_order
import KE.KExcLine
set_option Elab.async false
set_option linter.all false
set_option maxRecDepth 100000
set_option maxHeartbeats 2000000
/-! Readings run by simp, from the outside in: one equation a construct. -/
namespace SpX
open PySem PySem.Spec L2

section
variable {D : Ends} {σ : L2.St} {H : Hp} {Q : VK} {R : Bool → Hp → Prop} {t u : TS} {te ta tb : TE} {tc tt tu : TT} {g : TG} {i : Nat} {v x y : V} {o : Option V} {r : R2} {K : PySem.W.Frag}
theorem x_seq : tSeq t u D σ H = t { D with nx := u D } σ H := rfl
theorem x_next : tNext D σ H = D.nx σ H := rfl
theorem x_asg : tAsg te g D σ H = te σ H (fun x H1 => g x σ H1 D.nx) := rfl
theorem x_name {Q : L2.St → Hp → Prop} : gName i v σ H Q = Q (σ.set i (some v)) H := rfl
theorem x_drop : tDrop te D σ H = te σ H (fun _ H1 => D.nx σ H1) := rfl
theorem x_ret : tRet te D σ H = te σ H D.rt := rfl
theorem x_if : tIfS tc t u D σ H = tc σ H (fun b H1 => if b = true then t D σ H1 else u D σ H1) := rfl
theorem x_var0 : tVar 0 (some v :: σ) H Q = Q v H := by
  unfold tVar
  simp
theorem x_varS : tVar (i + 1) (o :: σ) H Q = tVar i σ H Q := by
  unfold tVar
  simp
theorem x_c : tC v σ H Q = Q v H := rfl
theorem x_op : tOp r ta tb σ H Q = ta σ H (fun x H1 => tb σ H1 fun y H2 => r x y H2 Q) := rfl
theorem x_un {r : V → Hp → VK → Prop} : tUn r ta σ H Q = ta σ H (fun x H1 => r x H1 Q) := rfl
theorem x_I0 {g : Int → Int → V} {a b : Int} : rI0 g (.int a) (.int b) H Q = Q (g a b) H := by
  unfold rI0
  simp
theorem x_I {C : Int → Int → Prop} {g : Int → Int → V} {a b : Int} : rI C g (.int a) (.int b) H Q = (C a b ∧ Q (g a b) H) := by
  unfold rI
  simp
theorem x_U {g : Int → V} {a : Int} : rU g (.int a) H Q = Q (g a) H := by
  unfold rU
  simp
theorem x_test : tTest te σ H R = te σ H (fun x H' => ∃ k, x = .bl k ∧ R k H') := rfl
theorem x_B : tB te σ H R = te σ H (fun x H' => ∃ k, x = .bl k ∧ R k H') := rfl
theorem x_bl {b : Bool} {P : Bool → Prop} : (∃ k, V.bl b = .bl k ∧ P k) = P b := by simp
theorem x_not : tNot tt σ H R = tt σ H (fun c H1 => R (!c) H1) := rfl
theorem x_and : tAnd tt tu σ H R = tt σ H (fun c H1 => if c = true then tu σ H1 R else R false H1) := rfl
theorem x_or : tOr tt tu σ H R = tt σ H (fun c H1 => if c = true then R true H1 else tu σ H1 R) := rfl
theorem x_andV : tAndV ta tb σ H Q = ta σ H (fun x H1 => ∃ c, x = .bl c ∧ if c = true then tb σ H1 Q else Q (.bl false) H1) := rfl
theorem x_orV : tOrV ta tb σ H Q = ta σ H (fun x H1 => ∃ c, x = .bl c ∧ if c = true then Q (.bl true) H1 else tb σ H1 Q) := rfl
theorem x_notV : tNotV ta σ H Q = ta σ H (fun x H1 => ∃ c, x = .bl c ∧ Q (.bl (!c)) H1) := rfl
theorem x_ifE : tIf tt ta tb σ H Q = tt σ H (fun c H1 => if c = true then ta σ H1 Q else tb σ H1 Q) := rfl
theorem x_eqI {a b : Int} : rEq (.int a) (.int b) H Q = Q (.bl (decide (a = b))) H := by
  unfold rEq scal
  simp
theorem x_neI {a b : Int} : rNe (.int a) (.int b) H Q = Q (.bl (!decide (a = b))) H := by
  unfold rNe scal
  simp
theorem x_eqB {a b : Bool} : rEq (.bl a) (.bl b) H Q = Q (.bl (decide (a = b))) H := by
  unfold rEq scal
  simp
theorem x_neB {a b : Bool} : rNe (.bl a) (.bl b) H Q = Q (.bl (!decide (a = b))) H := by
  unfold rNe scal
  simp
theorem x_nil {QA : List V → Hp → Prop} : tNil σ H QA = QA [] H := rfl
theorem x_cons {ta : TE} {tr : TA} {QA : List V → Hp → Prop} : tCons ta tr σ H QA = ta σ H (fun x H1 => tr σ H1 fun xs H2 => QA (x :: xs) H2) := rfl
theorem x_cb {r : List V → Hp → VK → Prop} {t : TA} : tCB r t σ H Q = t σ H (fun vs H1 => r vs H1 Q) := rfl
theorem x_call {sp : Sp} {dvs : List V} {E : XK} {t : TA} : tCall sp dvs E t σ H Q = t σ H (fun vs H1 => sp (vs ++ dvs) H1 Q E) := rfl
theorem x_lst {t : TA} : tLst t σ H Q = t σ H (fun xs H1 => xs.length ≤ sizeLine ∧ ∀ p, H1 p = none → Q (.ref p) (upd H1 p (.lst xs))) := rfl
theorem x_tup {t : TA} : tTup t σ H Q = t σ H (fun xs H1 => xs.length ≤ sizeLine ∧ ∀ p, H1 p = none → Q (.ref p) (upd H1 p (.tup xs))) := rfl
theorem x_gsub {to ti : TE} {ts : TSet} {Q : L2.St → Hp → Prop} : gSub to ti ts v σ H Q = to σ H (fun o H1 => ti σ H1 fun i H2 => ts o i v H2 fun H3 => Q σ H3) := rfl
theorem x_sl {r : V → Option Int → Option Int → Hp → VK → Prop} {tl th : TO} : tSl r te tl th σ H Q = te σ H (fun x H1 => tl σ H1 fun l H2 => th σ H2 fun u H3 => r x l u H3 Q) := rfl
theorem x_part {QO : Option Int → Hp → Prop} : tPart te σ H QO = te σ H (fun x H1 => ∃ i, x = .int i ∧ QO (some i) H1) := rfl
theorem x_nopart {QO : Option Int → Hp → Prop} : tNoPart σ H QO = QO none H := rfl
theorem x_int {a : Int} {P : Int → Prop} : (∃ k, V.int a = .int k ∧ P k) = P a := by simp
theorem x_set0 {α : Type} {a b : α} {l : List α} : (a :: l).set 0 b = b :: l := rfl
theorem x_setS {α : Type} {a b : α} {l : List α} : (a :: l).set (i + 1) b = a :: l.set i b := rfl

/-! ### reads of what is tracked -/
theorem SqL.at {p : Addr} {xs : List V} (h : H p = some (.lst xs)) : SqL K H p xs := .inl (.inl h)
theorem SqT.at {p : Addr} {xs : List V} (h : H p = some (.tup xs)) : SqT K H p xs := .inl (.inl h)
end
end SpX

set_option Elab.async false
set_option linter.all false
set_option maxRecDepth 100000
set_option maxHeartbeats 4000000
/-! Operators of a class of the text's own: the rules for instances beside instances and ints. -/
namespace SpX
open PySem PySem.Spec PyProof.Rows L2
section
variable {X : Cx} {CX : CXT} {k : Nat} {f C : Addr} {fd : FuncData} {ps : List Str} {sp : Sp} {E : XK} {op : Operator}

/-- // by a divisor of either sign -/
def CDivF (_ j : Int) : Prop := j ≠ 0 ∧ j.natAbs.log2 < 9000
theorem op_fdivF : OpR X (binaryOp .FloorDiv) (rI CDivF fun i j => .int (i.fdiv j)) := opI fun i j _ _ _ _ _ hc q => PyProof.Rows.floordiv_int hc.1 q (.inl (PyProof.noPylong_of_log2 hc.2))

theorem ep_back {pins : List (Addr × Obj)} {σ : L2.St} {Q : VK} {u : Value} {s' : Shared} (h : EP X pins σ Q u s') : PySem.W.CmpBack (EP X pins σ Q) u s' := by
  cases u with
  | notImplemented =>
    obtain ⟨v, H', I, r, q⟩ := h
    cases v <;> first
      | exact nomatch (show Value.notImplemented = _ from r)
      | exact (let ⟨_, e⟩ := (show ∃ t, Value.notImplemented = _ from r); nomatch e)
  | _ => exact h

/-- what the text must say of the operator op of the class at C: f its method -/
structure OwnOp (K : PySem.W.Frag) (C : Addr) (op : Operator) (f : Addr) : Prop where
  hs : PySem.W.findIn K (.ref C) (PySem.dunder op.info.2) = some (some (.ref f))
  hf : PySem.W.isFn K (.ref f) = true
  hc : PySem.W.selfFirst K C = true
/-- .. beside an int -/
structure OwnInt (K : PySem.W.Frag) (C : Addr) (op : Operator) : Prop where
  hr : ∃ rc, PySem.W.findIn K (.ref C) (dunderR op.info.2) = some rc ∧ (rc = none ∨ ∃ g : Addr, rc = some (.ref g))
  h1 : ∃ fo, PySem.W.findIn K (.type "int") (PySem.dunder op.info.2) = some fo
  h2 : ∃ ro, PySem.W.findIn K (.type "int") (dunderR op.info.2) = some ro
  hsub : PySem.W.subIn K (.type "int") (.ref C) = some false

/-- instance op instance -/
def rOwn2 (C : Addr) (sp : Sp) (E : XK) : R2 := fun x y H Q => ∃ a b dx dy fs gs, x = .ref a ∧ y = .ref b ∧ H a = some (.ins C dx fs) ∧ H b = some (.ins C dy gs) ∧ sp [.ref a, .ref b] H Q E
theorem op_own2 (O : OwnOp X.K C op f) (F : FnOk X.prog X.w X.K X.mg X.base CX k f fd ps sp) (hr : Room k X.A) (hb : Binds X.K fd ps []) (hx : Passes CX X E) : OpR X (binaryOp op) (rOwn2 C sp E) := by
  intro pins s σ H x y v u Q I rx ry h
  obtain ⟨a, b, dx, dy, fs, gs, rfl, rfl, ha, hb', hsp⟩ := h
  cases rx
  cases ry
  obtain ⟨mA, J, _⟩ := ins_get I.hok ha
  obtain ⟨mB, J', _⟩ := ins_get I.hok hb'
  obtain ⟨od, J, _⟩ := J.look
  obtain ⟨od', J', _⟩ := J'.look
  obtain ⟨m, hF⟩ := I.fr
  refine PySem.W.binop_K hF I.ok.mod.kin J J'.type O.hc O.hs O.hf ?_
  refine thn (run_fn (us := [.ref a, .ref b]) (vs := [.ref a, .ref b]) (dvs := []) F hr hb .nil hx I (.cons rfl (.cons rfl .nil)) hsp) fun u s' q => ep_back q
/-- instance op int -/
def rOwnI (C : Addr) (sp : Sp) (E : XK) : R2 := fun x y H Q => ∃ a i dx fs, x = .ref a ∧ y = .int i ∧ H a = some (.ins C dx fs) ∧ sp [.ref a, .int i] H Q E
theorem op_ownI (O : OwnOp X.K C op f) (N : OwnInt X.K C op) (F : FnOk X.prog X.w X.K X.mg X.base CX k f fd ps sp) (hr : Room k X.A) (hb : Binds X.K fd ps []) (hx : Passes CX X E) : OpR X (binaryOp op) (rOwnI C sp E) := by
  intro pins s σ H x y v u Q I rx ry h
  obtain ⟨a, i, dx, fs, rfl, rfl, ha, hsp⟩ := h
  cases rx
  obtain ⟨t, rfl⟩ := ry
  obtain ⟨mA, J, _⟩ := ins_get I.hok ha
  obtain ⟨od, J, _⟩ := J.look
  obtain ⟨m, hF⟩ := I.fr
  obtain ⟨rc, h3, h4⟩ := N.hr
  obtain ⟨fo, h1⟩ := N.h1
  obtain ⟨ro, h2⟩ := N.h2
  refine PySem.W.ksp_binT (T := "int") hF I.ok.mod.kin J rfl O.hc O.hs O.hf h3 h4 h1 h2 N.hsub ?_
  refine thn (run_fn (us := [.ref a, .int i t]) (vs := [.ref a, .int i]) (dvs := []) F hr hb .nil hx I (.cons rfl (.cons ⟨t, rfl⟩ .nil)) hsp) fun u s' q => ep_back q
/-- - instance -/
def rOwnU (C : Addr) (sp : Sp) (E : XK) : V → Hp → VK → Prop := fun x H Q => ∃ a dx fs, x = .ref a ∧ H a = some (.ins C dx fs) ∧ sp [.ref a] H Q E
theorem un_own (hs : PySem.W.findIn X.K (.ref C) "__neg__" = some (some (.ref f))) (hf : PySem.W.isFn X.K (.ref f) = true) (F : FnOk X.prog X.w X.K X.mg X.base CX k f fd ps sp) (hr : Room k X.A) (hb : Binds X.K fd ps []) (hx : Passes CX X E) :
    UnR X (unaryOp .USub) (rOwnU C sp E) := by
  intro pins s σ H x v Q I rx h
  obtain ⟨a, dx, fs, rfl, ha, hsp⟩ := h
  cases rx
  obtain ⟨mA, J, _⟩ := ins_get I.hok ha
  obtain ⟨od, J, _⟩ := J.look
  obtain ⟨m, hF⟩ := I.fr
  refine PySem.W.ksp_neg hF I.ok.mod.kin J hs hf ?_
  exact run_fn (us := [.ref a]) (vs := [.ref a]) (dvs := []) F hr hb .nil hx I (.cons rfl .nil) hsp

/-- the callee runs below a builtin -/
theorem run_fnA {A : Around} {pins : List (Addr × Obj)} {σ : L2.St} {H : Hp} {s : Shared} {Q : VK} {us : List Value} {vs : List V} (sb : Sub X k A) (F : FnOk X.prog X.w X.K X.mg X.base CX k f fd ps sp) (hb : Binds X.K fd ps []) (hx : Passes CX X E)
    (I : Inv X pins σ H s) (r : Vals vs us) (h : sp vs H Q E) : wpAny (model X.prog X.w) A (call (.ref f) us) (EP X pins σ Q) X.xe s := by
  have e0 : Env0 X.prog X.w X.K X.mg X.base A X.stack s H := by
    have e := I.env0
    exact ⟨by rw [sb.fr]; exact e.frames, e.mod, e.bs, e.bsz, e.funs, e.frf, e.hok, e.bare⟩
  have hl := F.len _ _ _ _ h
  have b := hb s us I.kIn (by rw [List.append_nil, ← r.length]; exact hl)
  rw [List.append_nil] at b
  refine wpAny_call (codeAny_mono (F.run A X.stack s H ⟨us, []⟩ us vs Q E sb.room e0 b r h) fun r s' hq => ?_)
  cases r with
  | error e => exact hx pins σ H s e s' I hq
  | ok fl =>
    cases fl with
    | ret u => exact I.after hq
    | next => exact False.elim hq
    | brk => exact False.elim hq
    | cont => exact False.elim hq
/-- abs(instance) -/
def rOwnAbs (C : Addr) (sp : Sp) (E : XK) : List V → Hp → VK → Prop := fun xs H Q => ∃ a dx fs, xs = [.ref a] ∧ H a = some (.ins C dx fs) ∧ sp [.ref a] H Q E
theorem call_absOwn (hs : PySem.W.findIn X.K (.ref C) "__abs__" = some (some (.ref f))) (hf : PySem.W.isFn X.K (.ref f) = true) (F : FnOk X.prog X.w X.K X.mg X.base CX k f fd ps sp) (hr : Room (k + 1) X.A) (hb : Binds X.K fd ps []) (hx : Passes CX X E) :
    CallR X (.builtin "abs") (rOwnAbs C sp E) := by
  intro pins s σ H xs us Q I r h
  obtain ⟨a, dx, fs, rfl, ha, hsp⟩ := h
  obtain ⟨u, rfl, rx⟩ := vals1 r
  cases rx
  obtain ⟨mA, J, _⟩ := ins_get I.hok ha
  obtain ⟨od, J, _⟩ := J.look
  refine PySem.Calls.call_function_entry kind_abs plain_abs entry_abs (args_abs _) ?_
  unfold Builtin.«abs»
  refine wpAny_bind (m := oneArg "abs" _) (wpAny_pure ?_)
  refine wpAny_bind (m := callSpecial? (.ref a) (Str.ofString "__abs__")) (PySem.W.special_fn I.kIn J hs (beq_iff_eq.mp hf) ?_)
  have sb : Sub X k X.A.in1 := Sub.in1 ⟨hr, rfl⟩
  refine thn (run_fnA (us := [.ref a]) (vs := [.ref a]) sb F hb hx I (.cons rfl .nil) hsp) fun u s' q => ?_
  exact wpAny_pure ⟨_, rfl, q⟩
/-- bool(instance) -/
def rOwnBool (C : Addr) (sp : Sp) (E : XK) : List V → Hp → VK → Prop := fun xs H Q => ∃ a dx fs, xs = [.ref a] ∧ H a = some (.ins C dx fs) ∧ sp [.ref a] H (fun v H' => ∃ b, v = .bl b ∧ Q (.bl b) H') E
theorem truthy_own {A : Around} {pins : List (Addr × Obj)} {s : Shared} {σ : L2.St} {H : Hp} {a dx : Addr} {fs : List (Str × V)} {Q : Bool → Hp → Prop} (sb : Sub X k A) (hs : PySem.W.findIn X.K (.ref C) "__bool__" = some (some (.ref f))) (hf : PySem.W.isFn X.K (.ref f) = true) (F : FnOk X.prog X.w X.K X.mg X.base CX k f fd ps sp)
    (hb : Binds X.K fd ps []) (hx : Passes CX X E) (I : Inv X pins σ H s) (ha : H a = some (.ins C dx fs)) (h : sp [.ref a] H (fun v H' => ∃ b, v = .bl b ∧ Q b H') E) : wpAny (model X.prog X.w) A (truthy (.ref a)) (TP X pins σ Q) X.xe s := by
  obtain ⟨mA, J, _⟩ := ins_get I.hok ha
  obtain ⟨od, J, _⟩ := J.look
  obtain ⟨m, hF⟩ := I.fr
  refine PySem.W.truthy_K hF I.ok.mod.kin J hs hf ?_
  refine thn (run_fnA (us := [.ref a]) (vs := [.ref a]) sb F hb hx I (.cons rfl .nil) h) fun u s' q => ?_
  obtain ⟨v, H', I', r, b, rfl, q⟩ := q
  cases r
  exact ⟨H', I', q⟩
theorem call_boolOwn (hs : PySem.W.findIn X.K (.ref C) "__bool__" = some (some (.ref f))) (hf : PySem.W.isFn X.K (.ref f) = true) (F : FnOk X.prog X.w X.K X.mg X.base CX k f fd ps sp) (hr : Room (k + 2) X.A) (hb : Binds X.K fd ps []) (hx : Passes CX X E) :
    CallR X (.type "bool") (rOwnBool C sp E) := by
  intro pins s σ H xs us Q I r h
  obtain ⟨a, dx, fs, rfl, ha, hsp⟩ := h
  obtain ⟨u, rfl, rx⟩ := vals1 r
  cases rx
  have sb : Sub X k X.A.in1.in1 := Sub.in1 (Sub.in1 (⟨hr, rfl⟩ : Sub X (k + 2) X.A))
  refine callType_newIn (S := fun A R s => wpAny (model X.prog X.w) A.in1 (truthy (.ref a)) (fun b s' => R (.ok (.ret (.bool b))) s') (fun e s' => R (.error e) s') s)
    PySem.F.called_bool PySem.F.newNe_bool (PySem.F.typeCall_bool_1 _) (PySem.F.newCall_bool_1 _) (fun obj => PySem.F.args_object_init_2 obj _) PySem.F.entry_bool_new ?_ ?_
  · intro A R s h
    obtain ⟨hp, g, d, tk, os⟩ := s
    have f1 := PySem.F.conv_sub_bool
    unfold Builtin.«bool.__new__»
    repeat (any_goals (first | assumption | with_reducible refine wpAny_mono h (fun b s' q => ?_) (fun _ _ x => x) | wp_step))
  · refine thn (truthy_own (Q := fun b H' => Q (.bl b) H') sb hs hf F hb hx I ha hsp) fun b s' q => ?_
    obtain ⟨H', I', q⟩ := q
    exact ⟨PySem.typeIs_bool _ _, ⟨.bl b, H', I', rfl, q⟩⟩
/-! ### int op instance: the instance's reflected method -/
theorem int_declines {prog : Program} {w : World} {A : Around} {E' : Value → Shared → Prop} {s : Shared} {nm : String} {g : Int → Int → Sem Fin} {i : Int} {t : Tok} {x C dx : Addr} {Q : Fin → Shared → Prop}
    (hsl : slotArgs nm 1 ⟨[.int i t, .ref x], []⟩ = pure (.int i t, [.ref x])) (hx : s.heap.get? x = some (PySem.W.instObj C dx)) (h : Q (.done (.ret .notImplemented)) s) :
    wpAny (model prog w) A (Builtin.Int.intBinary nm g false ⟨[.int i t, .ref x], []⟩) Q E' s := by
  unfold Builtin.Int.intBinary
  rw [hsl]
  refine wpAny_bind (wpAny_pure ?_)
  refine wpAny_bind (m := Builtin.Int.intOfSelf _) (wpAny_pure ?_)
  refine wpAny_bind (m := asInt? (.ref x)) ?_
  unfold asInt?
  refine wpAny_bind (wpAny_load hx (wpAny_pure ?_))
  refine wpAny_bind (wpAny_rule (wpAny_pure h))

end
end SpX

set_option Elab.async false
set_option linter.all false
set_option maxRecDepth 100000
set_option maxHeartbeats 4000000
namespace SpX
open PySem PySem.Spec PyProof.Rows L2
section
variable {X : Cx} {CX : CXT} {k : Nat} {f C : Addr} {fd : FuncData} {ps : List Str} {sp : Sp} {E : XK} {op : Operator}
/-- int's own method says nothing of an instance -/
def Declines (op : Operator) : Prop := ∀ (prog : Program) (w : World) (A : Around) (E' : Value → Shared → Prop) (s : Shared) (i : Int) (t : Tok) (x C dx : Addr) (Q : Option Value → Shared → Prop),
  s.heap.get? x = some (PySem.W.instObj C dx) → Q none s → wpAny (model prog w) A (tryMethod (.int i t) (PySem.dunder op.info.2) (.ref x)) Q E' s
theorem declines_of {op : Operator} {id nm : String} {g : Int → Int → Sem Fin} {B : Builtin} (slot : Slot "int" (PySem.dunder op.info.2) id) (entry : entryFor table id = some B) (hB : B = Builtin.Int.intBinary nm g false)
    (args : ∀ a b : Value, argsOk id ⟨[a, b], []⟩) (hsl : ∀ (i : Int) (t : Tok) (x : Addr), slotArgs nm 1 ⟨[.int i t, .ref x], []⟩ = pure (.int i t, [.ref x])) : Declines op := by
  intro prog w A E' s i t x C dx Q hx h
  unfold tryMethod
  refine wpAny_bind (wpAny_callSpecial?_slot (typeIs_int s i t) slot ?_)
  refine wpAny_call_entry slot (typeIs_int s i t) entry ?_ (args _ _)
  rw [hB]
  exact int_declines (hsl i t x) hx ⟨_, rfl, wpAny_pure h⟩
theorem gbin_add : ∃ g, Builtin.«int.__add__» = Builtin.Int.intBinary "__add__" g false := ⟨_, rfl⟩
theorem gslot_add (i : Int) (t : Tok) (x : Addr) : slotArgs "__add__" 1 ⟨[.int i t, .ref x], []⟩ = pure (.int i t, [.ref x]) := rfl
theorem decl_add : Declines .Add := by
  obtain ⟨g, hg⟩ := gbin_add
  refine declines_of (op := .Add) (id := "int.__add__") (nm := "__add__") (g := g) (B := Builtin.«int.__add__») ?_ ?_ ?_ ?_ ?_
  · exact slot_int_add
  · exact entry_int_add
  · exact hg
  · exact args_int_add
  · exact gslot_add
theorem gbin_sub : ∃ g, Builtin.«int.__sub__» = Builtin.Int.intBinary "__sub__" g false := ⟨_, rfl⟩
theorem gslot_sub (i : Int) (t : Tok) (x : Addr) : slotArgs "__sub__" 1 ⟨[.int i t, .ref x], []⟩ = pure (.int i t, [.ref x]) := rfl
theorem decl_sub : Declines .Sub := by
  obtain ⟨g, hg⟩ := gbin_sub
  refine declines_of (op := .Sub) (id := "int.__sub__") (nm := "__sub__") (g := g) (B := Builtin.«int.__sub__») ?_ ?_ ?_ ?_ ?_
  · exact slot_int_sub
  · exact entry_int_sub
  · exact hg
  · exact args_int_sub
  · exact gslot_sub
theorem gbin_mul : ∃ g, Builtin.«int.__mul__» = Builtin.Int.intBinary "__mul__" g false := ⟨_, rfl⟩
theorem gslot_mul (i : Int) (t : Tok) (x : Addr) : slotArgs "__mul__" 1 ⟨[.int i t, .ref x], []⟩ = pure (.int i t, [.ref x]) := rfl
theorem decl_mul : Declines .Mult := by
  obtain ⟨g, hg⟩ := gbin_mul
  refine declines_of (op := .Mult) (id := "int.__mul__") (nm := "__mul__") (g := g) (B := Builtin.«int.__mul__») ?_ ?_ ?_ ?_ ?_
  · exact slot_int_mul
  · exact entry_int_mul
  · exact hg
  · exact args_int_mul
  · exact gslot_mul
/-- what the text must say of the reflected method g -/
structure OwnRef (K : PySem.W.Frag) (C : Addr) (op : Operator) (g : Addr) : Prop where
  ex : ∃ f : Addr, PySem.W.findIn K (.ref C) (PySem.dunder op.info.2) = some (some (.ref f))
  hs : PySem.W.findIn K (.ref C) (dunderR op.info.2) = some (some (.ref g))
  hf : PySem.W.isFn K (.ref g) = true
  hc : PySem.W.selfFirst K C = true
  h1 : ∃ fo, PySem.W.findIn K (.type "int") (PySem.dunder op.info.2) = some fo ∧ (fo.isSome && !isSeqSlot fo) = true
  h2 : ∃ ro, PySem.W.findIn K (.type "int") (dunderR op.info.2) = some ro
  hsub : PySem.W.subIn K (.ref C) (.type "int") = some false
theorem binop_refl {prog : Program} {w : World} {A : Around} {E' : Value → Shared → Prop} {s : Shared} {K : PySem.W.Frag} {i : Int} {t : Tok} {x g : Addr} {dx : Addr} {od : Option Obj} {Q : Value → Shared → Prop} (X : K.In s.heap) (O : OwnRef K C op g) (D : Declines op)
    (hx : s.heap.get? x = some (PySem.W.instObj C dx)) (I : PySem.W.InstAt s.heap x (PySem.W.instObj C dx) C od)
    (h : wpAny (model prog w) A (call (.ref g) [.ref x, .int i t]) (PySem.W.CmpBack Q) E' s) : wpAny (model prog w) A (binaryOp op (.int i t) (.ref x)) Q E' s := by
  obtain ⟨cd, rest, hcd, hm⟩ := PySem.W.ksp_first O.hc
  obtain ⟨f, hs⟩ := O.ex
  obtain ⟨fo, h1, hfo⟩ := O.h1
  obtain ⟨ro, h2⟩ := O.h2
  have hsr := O.hs
  have one := PySem.W.ksp_try X I O.hs O.hf h
  have dec := D prog w A E' s i t x C dx
  rcases hi : op.info with ⟨sym, nm'⟩
  rw [hi] at hs h1 h2 hsr dec one
  dsimp only at hs h1 h2 hsr dec one
  obtain ⟨hh, g', d, tt, os⟩ := s
  have L1 : PySem.W.Looks (model prog w) hh (typeOf (.int i t)) (.type "int") := PySem.W.Looks.of_pure rfl
  have L2 : PySem.W.Looks (model prog w) hh (typeOf (.ref x)) (.ref C) := I.type
  have L3 : PySem.W.Looks (model prog w) hh (fillsNumberSlot (.type "int") nm') ((fo.isSome && !isSeqSlot fo) || (ro.isSome && !isSeqSlot ro)) := PySem.W.ksp_fillsT X h1 h2
  rw [hfo, Bool.true_or] at L3
  have L4 : PySem.W.Looks (model prog w) hh (fillsNumberSlot (.ref C) nm') true := PySem.W.fills_K X hcd hm hs
  have L5 : PySem.W.Looks (model prog w) hh (isSubtype (.ref C) (.type "int")) false := PySem.W.looks_subIn X O.hsub
  have L7 : PySem.W.Looks (model prog w) hh (numberSlotInPython (.type "int") nm') false := PySem.W.Looks.of_pure rfl
  have hne : (Value.type "int" == Value.ref C) = false := Bool.eq_false_iff.mpr fun q => by cases beq_iff_eq.mp q
  simp only [binaryOp, hi]
  refine wpAny_holding (wpAny_bind ?_)
  unfold binaryOp1
  refine wpAny_bind (L1.at (wpAny_bind (L2.at (wpAny_bind (L3.at ?_)))))
  simp only [hne, Bool.false_eq_true, if_false]
  refine wpAny_bind (L4.at ?_)
  simp only [Bool.and_self, if_true]
  refine wpAny_bind (L5.at ?_)
  simp only [Bool.false_eq_true, if_false]
  refine wpAny_bind (wpAny_pure ?_)
  simp only [Bool.not_false, Bool.and_self, if_true, Bool.false_eq_true, if_false]
  refine wpAny_bind (dec _ hx ?_)
  dsimp only
  refine wpAny_bind (wpAny_mono one (fun r s' hr' => ?_) fun _ _ e => e)
  obtain ⟨v, rfl, hq⟩ := hr'
  exact wpAny_bind (wpAny_rule (wpAny_pure (wpAny_pure hq)))
/-- int op instance -/
def rOwnR (C : Addr) (sp : Sp) (E : XK) : R2 := fun x y H Q => ∃ i a dx fs, x = .int i ∧ y = .ref a ∧ H a = some (.ins C dx fs) ∧ sp [.ref a, .int i] H Q E
theorem op_ownR (O : OwnRef X.K C op f) (Dc : Declines op) (F : FnOk X.prog X.w X.K X.mg X.base CX k f fd ps sp) (hr : Room k X.A) (hb : Binds X.K fd ps []) (hx : Passes CX X E) : OpR X (binaryOp op) (rOwnR C sp E) := by
  intro pins s σ H x y v u Q I rx ry h
  obtain ⟨i, a, dx, fs, rfl, rfl, ha, hsp⟩ := h
  obtain ⟨t, rfl⟩ := rx
  cases ry
  obtain ⟨mA, J, _⟩ := ins_get I.hok ha
  have hobj := J.obj
  obtain ⟨od, J, _⟩ := J.look
  refine binop_refl I.kIn O Dc hobj J ?_
  refine thn (run_fn (us := [.ref a, .int i t]) (vs := [.ref a, .int i]) (dvs := []) F hr hb .nil hx I (.cons rfl (.cons ⟨t, rfl⟩ .nil)) hsp) fun u s' q => ep_back q

/-! ### == by an own __eq__, whatever it answers -/
/-- what the text must say of the class's __eq__ -/
structure OwnEqF (K : PySem.W.Frag) (C f : Addr) : Prop where
  hs : PySem.W.findIn K (.ref C) "__eq__" = some (some (.ref f))
  hf : PySem.W.isFn K (.ref f) = true
  hi : PySem.W.subIn K (.type "int") (.ref C) = some false
  hci : PySem.W.subIn K (.ref C) (.type "int") = some false
theorem cmp_own2 (O : OwnEqF X.K C f) (F : FnOk X.prog X.w X.K X.mg X.base CX k f fd ps sp) (hr : Room k X.A) (hb : Binds X.K fd ps []) (hx : Passes CX X E) : OpR X (compareOp .Eq) (rOwn2 C sp E) := by
  intro pins s σ H x y v u Q I rx ry h
  obtain ⟨a, b, dx, dy, fs, gs, rfl, rfl, ha, hb', hsp⟩ := h
  cases rx
  cases ry
  obtain ⟨mA, J, _⟩ := ins_get I.hok ha
  obtain ⟨mB, J', _⟩ := ins_get I.hok hb'
  obtain ⟨od, J, _⟩ := J.look
  obtain ⟨od', J', _⟩ := J'.look
  obtain ⟨m, hF⟩ := I.fr
  show wpAny (model X.prog X.w) X.A (richCompare .Eq (.ref a) (.ref b)) (EP X pins σ Q) X.xe s
  refine PySem.W.cmp_K (op := .Eq) (tb := .ref C) hr.units0 hF I.ok.mod.kin J J'.type (by simp [PySem.W.notFirst]) O.hs O.hf ?_
  refine thn (run_fn (us := [.ref a, .ref b]) (vs := [.ref a, .ref b]) (dvs := []) F hr hb .nil hx I (.cons rfl (.cons rfl .nil)) hsp) fun u s' q => ep_back q
theorem cmp_ownI (O : OwnEqF X.K C f) (F : FnOk X.prog X.w X.K X.mg X.base CX k f fd ps sp) (hr : Room k X.A) (hb : Binds X.K fd ps []) (hx : Passes CX X E) : OpR X (compareOp .Eq) (rOwnI C sp E) := by
  intro pins s σ H x y v u Q I rx ry h
  obtain ⟨a, i, dx, fs, rfl, rfl, ha, hsp⟩ := h
  cases rx
  obtain ⟨t, rfl⟩ := ry
  obtain ⟨mA, J, _⟩ := ins_get I.hok ha
  obtain ⟨od, J, _⟩ := J.look
  obtain ⟨m, hF⟩ := I.fr
  show wpAny (model X.prog X.w) X.A (richCompare .Eq (.ref a) (.int i t)) (EP X pins σ Q) X.xe s
  refine PySem.W.cmp_K (op := .Eq) (tb := .type "int") hr.units0 hF I.ok.mod.kin J (PySem.W.Looks.of_pure rfl) (by unfold PySem.W.notFirst; rw [O.hi]; simp) O.hs O.hf ?_
  refine thn (run_fn (us := [.ref a, .int i t]) (vs := [.ref a, .int i]) (dvs := []) F hr hb .nil hx I (.cons rfl (.cons ⟨t, rfl⟩ .nil)) hsp) fun u s' q => ep_back q
/-- int == instance -/
theorem gcmp_eq (i : Int) (t : Tok) (x : Addr) : slotArgs "__eq__" 1 ⟨[.int i t, .ref x], []⟩ = pure (.int i t, [.ref x]) := rfl
theorem gbin_eq : ∃ g, Builtin.«int.__eq__» = Builtin.Int.intBinary "__eq__" g false := ⟨_, rfl⟩
theorem int_declinesC {prog : Program} {w : World} {A : Around} {E' : Value → Shared → Prop} {s : Shared} {i : Int} {t : Tok} {x C dx : Addr} {Q : Fin → Shared → Prop}
    (hsl : slotArgs "__eq__" 1 ⟨[.int i t, .ref x], []⟩ = pure (.int i t, [.ref x])) (hx : s.heap.get? x = some (PySem.W.instObj C dx)) (h : Q (.done (.ret .notImplemented)) s) :
    wpAny (model prog w) A (Builtin.«int.__eq__» ⟨[.int i t, .ref x], []⟩) Q E' s := by
  obtain ⟨g, hg⟩ := gbin_eq
  rw [hg]
  exact int_declines hsl hx h
theorem cmp_ownR (O : OwnEqF X.K C f) (F : FnOk X.prog X.w X.K X.mg X.base CX k f fd ps sp) (hr : Room k X.A) (hb : Binds X.K fd ps []) (hx : Passes CX X E) : OpR X (compareOp .Eq) (rOwnR C sp E) := by
  intro pins s σ H x y v u Q I rx ry h
  obtain ⟨i, a, dx, fs, rfl, rfl, ha, hsp⟩ := h
  obtain ⟨t, rfl⟩ := rx
  cases ry
  obtain ⟨mA, J, _⟩ := ins_get I.hok ha
  have hobj := J.obj
  obtain ⟨od, J, _⟩ := J.look
  have kin := I.kIn
  have one : wpAny (model X.prog X.w) X.A (tryCompare (.ref a) "__eq__" (.int i t)) (fun r s' => ∃ v, r = some v ∧ EP X pins σ Q v s') X.xe s := by
    unfold tryCompare
    refine wpAny_bind (PySem.W.ifBound_K kin J O.hs O.hf (wpAny_mono (run_fn (us := [.ref a, .int i t]) (vs := [.ref a, .int i]) (dvs := []) F hr hb .nil hx I (.cons rfl (.cons ⟨t, rfl⟩ .nil)) hsp) (fun v s' hv => ?_) fun _ _ e => e))
    have hv' := ep_back hv
    cases v <;> first | exact hv'.elim | exact wpAny_pure ⟨_, rfl, hv⟩
  show wpAny (model X.prog X.w) X.A (richCompare .Eq (.int i t) (.ref a)) (EP X pins σ Q) X.xe s
  unfold richCompare
  refine wpAny_holding (wpAny_bind (wpAny_cRoomFor hr.units0 ?_))
  rw [show oneThing? CmpOp.Eq (Value.int i t) (Value.ref a) = none from rfl]
  dsimp only [cmpInfo]
  have L1 : PySem.W.Looks (model X.prog X.w) s.heap (typeOf (.int i t)) (.type "int") := PySem.W.Looks.of_pure rfl
  refine wpAny_bind (L1.here (wpAny_bind (J.type.here ?_)))
  rw [if_pos (show (Value.type "int" != Value.ref C) = true from rfl)]
  refine wpAny_bind ((PySem.W.looks_subIn kin O.hci).here ?_)
  simp only [Bool.false_eq_true, if_false]
  refine wpAny_bind (m := tryCompare (.int i t) _ (.ref a)) ?_
  unfold tryCompare
  refine wpAny_bind (m := callSpecialIfBound? (.int i t) _ _) (wpAny_callSpecialIfBound?_slot (typeIs_int s i t) slot_int_eq ?_)
  refine wpAny_call_entry slot_int_eq (typeIs_int s i t) entry_int_eq ?_ (args_int_eq _ _)
  refine int_declinesC (gcmp_eq i t a) hobj ⟨_, rfl, ?_⟩
  refine wpAny_pure ?_
  rw [if_pos (show (!false) = true from rfl)]
  refine wpAny_bind (wpAny_mono one (fun r s' hr' => ?_) fun _ _ e => e)
  obtain ⟨v, rfl, hq⟩ := hr'
  exact wpAny_pure hq
end
end SpX

set_option Elab.async false
set_option linter.all false
set_option maxRecDepth 100000
set_option maxHeartbeats 2000000
/-! Readings of built-ins by short names; what stays of a heap. -/
namespace SpX
open PySem PySem.Spec L2
def rLen1 (K : PySem.W.Frag) : List V → Hp → VK → Prop := fun xs H Q => ∃ p ys, xs = [.ref p] ∧ (SqL K H p ys ∨ SqT K H p ys) ∧ Q (.int ys.length) H
def rList1 (K : PySem.W.Frag) : List V → Hp → VK → Prop := fun xs H Q => ∃ p ys, xs = [.ref p] ∧ (SqL K H p ys ∨ SqT K H p ys) ∧ ∀ l, H l = none → Q (.ref l) (upd H l (.lst ys))
def rInt1 : List V → Hp → VK → Prop := fun xs H Q => (∃ i, xs = [.int i] ∧ Q (.int i) H) ∨ ∃ k, xs = [.bl k] ∧ Q (.int (if k then 1 else 0)) H
def rBool1 : List V → Hp → VK → Prop := fun xs H Q => (∃ i, xs = [.int i] ∧ Q (.bl (i != 0)) H) ∨ ∃ k, xs = [.bl k] ∧ Q (.bl k) H
def rAbs1 : List V → Hp → VK → Prop := fun xs H Q => ∃ i, xs = [.int i] ∧ Q (.int (if i < 0 then -i else i)) H
def rMax2 : List V → Hp → VK → Prop := fun xs H Q => ∃ i j, xs = [.int i, .int j] ∧ Q (.int (if j > i then j else i)) H
def rMin2 : List V → Hp → VK → Prop := fun xs H Q => ∃ i j, xs = [.int i, .int j] ∧ Q (.int (if j < i then j else i)) H
section
variable {D : Ends} {σ : L2.St} {H : Hp} {Q : VK} {a b : Int}
theorem x_int1 : rInt1 [.int a] H Q = Q (.int a) H := by
  unfold rInt1
  simp
theorem x_abs1 : rAbs1 [.int a] H Q = Q (.int (if a < 0 then -a else a)) H := by
  unfold rAbs1
  simp
theorem x_max2 : rMax2 [.int a, .int b] H Q = Q (.int (if b > a then b else a)) H := by
  exact propext ⟨fun ⟨_, _, e, q⟩ => by cases e; exact q, fun q => ⟨_, _, rfl, q⟩⟩
theorem x_gcd : rGcd [.int a, .int b] H Q = Q (.int ((Nat.gcd a.natAbs b.natAbs : Nat) : Int)) H := by
  exact propext ⟨fun ⟨_, _, e, q⟩ => by cases e; exact q, fun q => ⟨_, _, rfl, q⟩⟩
end
section
variable {X : Cx}
theorem op_mulI : OpR X (binaryOp .Mult) (rI IntMulOk fun i j => .int (i * j)) := opI fun _ _ _ _ _ _ _ hc q => PyProof.Rows.mul_int q hc
end
theorem mul_lit {i j : Int} (h : -(2 ^ 64) < j ∧ j < 2 ^ 64) : IntMulOk i j := CMul.ok (.inr h)
theorem mul_lit' {i j : Int} (h : -(2 ^ 64) < i ∧ i < 2 ^ 64) : IntMulOk i j := CMul.ok (.inl h)
theorem mul_wide {i j : Int} {a b : Nat} (ha : i.natAbs < 2 ^ a) (hb : j.natAbs < 2 ^ b) (h0 : 0 < a) (h1 : 0 < b) (h : a + b ≤ 1000000) : IntMulOk i j := (wide_mul ha hb h0 h1 h).ok
/-! ### tracked lists and tuples alone: the readings are equations -/
def rIx1 : R2 := fun x y H Q => ∃ p xs i v, x = .ref p ∧ y = .int i ∧ (H p = some (.lst xs) ∨ H p = some (.tup xs)) ∧ atI xs i = some v ∧ Q v H
def rLenA : List V → Hp → VK → Prop := fun vs H Q => ∃ p xs, vs = [.ref p] ∧ (H p = some (.lst xs) ∨ H p = some (.tup xs)) ∧ Q (.int xs.length) H
def rListA : List V → Hp → VK → Prop := fun vs H Q => ∃ p xs, vs = [.ref p] ∧ (H p = some (.lst xs) ∨ H p = some (.tup xs)) ∧ ∀ l, H l = none → Q (.ref l) (upd H l (.lst xs))
def rSlA : V → Option Int → Option Int → Hp → VK → Prop := fun x lo hi H Q => ∃ p xs, x = .ref p ∧ H p = some (.lst xs) ∧ ∀ q, H q = none → Q (.ref q) (upd H q (.lst (cutV xs lo hi)))
section
variable {X : Cx}
theorem ix_1 : IxR X rIx1 := by
  intro value slice pins s σ H x y v u Q I rx ry h hs
  obtain ⟨p, xs, i, w, rfl, rfl, h1 | h1, h2, q⟩ := h
  · exact ix_list value slice pins s σ H _ _ v u Q I rx ry ⟨p, xs, i, w, rfl, rfl, .inl (.inl h1), h2, q⟩ hs
  · exact ix_tup value slice pins s σ H _ _ v u Q I rx ry ⟨p, xs, i, w, rfl, rfl, .inl (.inl h1), h2, q⟩ hs
theorem call_lenA : CallR X (.builtin "len") rLenA := by
  intro pins s σ H xs us Q I r h
  obtain ⟨p, ys, rfl, h1 | h1, q⟩ := h
  · exact call_len_seq pins s σ H _ us Q I r ⟨p, ys, rfl, .inl (.inl (.inl h1)), q⟩
  · exact call_len_seq pins s σ H _ us Q I r ⟨p, ys, rfl, .inr (.inl (.inl h1)), q⟩
theorem call_listA : CallR X (.type "list") rListA := by
  intro pins s σ H xs us Q I r h
  obtain ⟨p, ys, rfl, h1 | h1, q⟩ := h
  · exact call_list_of pins s σ H _ us Q I r ⟨p, ys, rfl, .inl (.inl (.inl h1)), q⟩
  · exact call_list_of pins s σ H _ us Q I r ⟨p, ys, rfl, .inr (.inl (.inl h1)), q⟩
theorem sl_A : SlR X rSlA := by
  intro pins s σ H x v vl vu lo hi sl Q I rx rs rl rh h
  obtain ⟨p, ys, rfl, h1, q⟩ := h
  exact sl_list pins s σ H _ v vl vu lo hi sl Q I rx rs rl rh ⟨p, ys, rfl, .inl (.inl h1), q⟩
end
section
variable {σ : L2.St} {H : Hp} {Q : VK} {p : Addr} {xs ys : List V} {i : Int} {v : V}
theorem x_ix (h : H p = some (.lst xs)) (ha : atI xs i = some v) : rIx1 (.ref p) (.int i) H Q = Q v H := propext (Iff.intro
  (fun ⟨_, _, _, _, e1, e2, h1, h2, q⟩ => by
    cases e1; cases e2
    rw [h] at h1
    rcases h1 with h1 | h1
    · cases h1
      rw [ha] at h2
      cases h2
      exact q
    · cases h1)
  (fun q => ⟨_, _, _, _, rfl, rfl, .inl h, ha, q⟩))

theorem x_ixT (h : H p = some (.tup xs)) (ha : atI xs i = some v) : rIx1 (.ref p) (.int i) H Q = Q v H := propext (Iff.intro
  (fun ⟨_, _, _, _, e1, e2, h1, h2, q⟩ => by
    cases e1; cases e2
    rw [h] at h1
    rcases h1 with h1 | h1
    · cases h1
    · cases h1
      rw [ha] at h2
      cases h2
      exact q)
  (fun q => ⟨_, _, _, _, rfl, rfl, .inr h, ha, q⟩))

theorem x_lenA (h : H p = some (.lst xs)) : rLenA [.ref p] H Q = Q (.int xs.length) H := propext (Iff.intro
  (fun ⟨_, _, e1, h1, q⟩ => by
    cases e1
    rw [h] at h1
    rcases h1 with h1 | h1
    · cases h1
      exact q
    · cases h1)
  (fun q => ⟨_, _, rfl, .inl h, q⟩))

theorem x_listA (h : H p = some (.lst xs)) : rListA [.ref p] H Q = ∀ l, H l = none → Q (.ref l) (upd H l (.lst xs)) := propext (Iff.intro
  (fun ⟨_, _, e1, h1, q⟩ => by
    cases e1
    rw [h] at h1
    rcases h1 with h1 | h1
    · cases h1
      exact q
    · cases h1)
  (fun q => ⟨_, _, rfl, .inl h, q⟩))

theorem x_slA {lo hi : Option Int} (h : H p = some (.lst xs)) : rSlA (.ref p) lo hi H Q = ∀ q, H q = none → Q (.ref q) (upd H q (.lst (cutV xs lo hi))) := propext (Iff.intro
  (fun ⟨_, _, e1, h1, q⟩ => by
    cases e1
    rw [h] at h1
    cases h1
    exact q)
  (fun q => ⟨_, _, rfl, h, q⟩))

theorem x_setL {k : Int} {j : Nat} {QQ : Hp → Prop} (h : H p = some (.lst xs)) (hj : ixN xs.length k = some j) : rSetL (.ref p) (.int k) v H QQ = QQ (upd H p (.lst (xs.set j v))) := propext (Iff.intro
  (fun ⟨_, _, _, _, e1, e2, h1, h2, q⟩ => by
    cases e1; cases e2
    rw [h] at h1
    cases h1
    rw [hj] at h2
    cases h2
    exact q)
  (fun q => ⟨_, _, _, _, rfl, rfl, h, hj, q⟩))

theorem x_cat {q : Addr} (h : H p = some (.lst xs)) (h' : H q = some (.lst ys)) (hz : xs.length + ys.length ≤ sizeLine) : rCat (.ref p) (.ref q) H Q = ∀ l, H l = none → Q (.ref l) (upd H l (.lst (xs ++ ys))) := propext (Iff.intro
  (fun ⟨_, _, _, _, e1, e2, h1, h2, _, q⟩ => by
    cases e1; cases e2
    rw [h] at h1
    rw [h'] at h2
    cases h1; cases h2
    exact q)
  (fun q => ⟨_, _, _, _, rfl, rfl, h, h', hz, q⟩))

theorem x_tbm {T : String} {K : PySem.W.Frag} {r : V → List V → Hp → VK → Prop} {to : TE} {t : TA} : tBM K T r to t σ H Q = to σ H (fun x H1 => tyV K T x H1 ∧ t σ H1 fun xs H2 => r x xs H2 Q) := rfl
theorem x_append (h : H p = some (.lst xs)) (hz : xs.length < sizeLine) : rAppend (.ref p) [v] H Q = Q .non (upd H p (.lst (xs ++ [v]))) := propext (Iff.intro
  (fun ⟨_, _, _, e1, e2, h1, _, q⟩ => by
    cases e1; cases e2
    rw [h] at h1
    cases h1
    exact q)
  (fun q => ⟨_, _, _, rfl, rfl, h, hz, q⟩))

end
theorem ty_lst {K : PySem.W.Frag} {H : Hp} {p : Addr} {xs : List V} (h : H p = some (.lst xs)) : tyV K "list" (.ref p) H := .inl ⟨rfl, _, .inl (.inl h)⟩
/-- all that was tracked, but for what stands at p, is as it was -/
def Keep (p : Addr) (H H' : Hp) : Prop := ∀ b o, b ≠ p → H b = some o → H' b = some o
theorem Keep.refl (p : Addr) (H : Hp) : Keep p H H := fun _ _ _ h => h
theorem Keep.trans {p : Addr} {H H1 H2 : Hp} (a : Keep p H H1) (b : Keep p H1 H2) : Keep p H H2 := fun c o n h => b c o n (a c o n h)
theorem Keep.of {p : Addr} {H H1 : Hp} (a : Same H H1) : Keep p H H1 := fun c o _ h => a c o h
theorem Same.new {H : Hp} {p : Addr} {o : HO} (h : H p = none) : Same H (upd H p o) := fun a u e => by
  rw [upd_ne (ne_of_none e h)]
  exact e
theorem Same.new' {H H1 : Hp} {p : Addr} {o : HO} (s : Same H H1) (h : H1 p = none) : Same H (upd H1 p o) := s.trans (Same.new h)
theorem Keep.new {q : Addr} {H H1 : Hp} {p : Addr} {o : HO} (s : Keep q H H1) (h : H1 p = none) : Keep q H (upd H1 p o) := s.trans (Keep.of (Same.new h))
theorem Keep.at {q : Addr} {H H1 : Hp} {o : HO} (s : Keep q H H1) : Keep q H (upd H1 q o) := fun c u n h => by
  rw [upd_ne n]
  exact s c u n h
/-- two tracked things of unlike kinds -/
theorem lst_tup {H : Hp} {a b : Addr} {xs ys : List V} (h : H a = some (.lst xs)) (h' : H b = some (.tup ys)) : b ≠ a := fun e => by
  subst e
  rw [h] at h'
  cases h'
theorem atI_0 {v : V} {xs : List V} : atI (v :: xs) 0 = some v := by
  show atI (v :: xs) ((0 : Nat) : Int) = some v
  exact atI_nat rfl
theorem sl5 {n : Nat} (h : n ≤ 1000) : n ≤ sizeLine := Nat.le_trans h (by decide)
end SpX

set_option Elab.async false
set_option linter.all false
set_option maxRecDepth 100000
set_option maxHeartbeats 2000000
/-! Ratios: how one stands on the heap, what a def promises of it. -/
namespace SpX
open PySem PySem.Spec L2
abbrev RF (t b : Int) : List (Str × V) := [("top", .int t), ("bottom", .int b)]
/-- a ratio t / b stands at p -/
def RatAt (C : Addr) (H : Hp) (p : Addr) (t b : Int) : Prop := ∃ dx, H p = some (.ins C dx (RF t b))
theorem RatAt.same {C : Addr} {H H' : Hp} {p : Addr} {t b : Int} (h : RatAt C H p t b) (s : Same H H') : RatAt C H' p t b := by
  obtain ⟨dx, e⟩ := h
  exact ⟨dx, s _ _ e⟩
/-- isinstance of an int or of a ratio -/
inductive IsA (C : Addr) (H : Hp) : List V → Bool → Prop where
  | ii (i : Int) : IsA C H [.int i, .ty "int"] true
  | ic (i : Int) : IsA C H [.int i, .ref C] false
  | ri {p dx : Addr} {fs : List (Str × V)} (h : H p = some (.ins C dx fs)) : IsA C H [.ref p, .ty "int"] false
  | rc {p dx : Addr} {fs : List (Str × V)} (h : H p = some (.ins C dx fs)) : IsA C H [.ref p, .ref C] true
def rIsA (C : Addr) : List V → Hp → VK → Prop := fun xs H Q => ∃ b, IsA C H xs b ∧ Q (.bl b) H
structure IsaOk (K : PySem.W.Frag) (C : Addr) : Prop where
  cl : Cls K C
  ha : PySem.W.findIn K (.ref C) "__class__" = some (some (.builtin "object.__class__"))
  hn : PySem.W.specialIn K (.builtin "object.__class__") "__get__" = some (some (.builtin "getset_descriptor.__get__"))
  ht : PySem.W.takesIn K (.builtin "object.__class__") = some true
  hm : PySem.W.mroIn K C (.type "object") = some true
  k0 : PySem.W.kitOne K (.ref C) (.type "int") = some false
  k1 : PySem.W.kitOne K (.type "int") (.ref C) = some false
theorem kit_self {K : PySem.W.Frag} {C : Addr} : PySem.W.kitOne K (.ref C) (.ref C) = some true := by
  unfold PySem.W.kitOne
  rw [if_pos (beq_self_eq_true _)]
theorem call_isA {X : Cx} {C : Addr} (T : IsaOk X.K C) : CallR X (.builtin "isinstance") (rIsA C) := by
  intro pins s σ H xs us Q I r h
  obtain ⟨b, h, q⟩ := h
  cases h with
  | ii i => exact call_isi pins s σ H _ us Q I r ⟨_, _, _, _, _, rfl, .ty _, .base (.int _), kit_ty (by decide +kernel), q⟩
  | ic i => exact call_isi pins s σ H _ us Q I r ⟨_, _, _, _, _, rfl, .own _, .base (.int _), T.k1, q⟩
  | ri e => exact call_isi pins s σ H _ us Q I r ⟨_, _, _, _, _, rfl, .ty _, .base (.ins e T.cl T.ha T.hn T.ht T.hm), T.k0, q⟩
  | rc e => exact call_isi pins s σ H _ us Q I r ⟨_, _, _, _, _, rfl, .own _, .base (.ins e T.cl T.ha T.hn T.ht T.hm), kit_self, q⟩
/-- e.f of an instance of C -/
def rFld (C : Addr) (f : Str) : V → Hp → VK → Prop := fun x H Q => ∃ a dx fs v, x = .ref a ∧ H a = some (.ins C dx fs) ∧ fs.lookup f = some v ∧ Q v H
theorem pe_fldA {X : Cx} {C : Addr} {e : Expr} {f : Str} {pos : Pos} {ta : TE} (he : PE X e ta) (c : Cls X.K C) (n : NoAttr X.K C f) (hb : attributeBase e f X.env (eval e X.env) = eval e X.env) : PE X (.Attribute e f pos) (tUn (rFld C f) ta) := by
  refine ⟨fun pins s σ H Q I h => ?_⟩
  refine attr_of hb (thn (he.run pins s σ H _ I h) fun u s1 hh => ?_)
  obtain ⟨x, H1, I1, rx, a, dx, fs, v, ex, ea, l, q⟩ := hh
  subst ex
  obtain rfl : u = Value.ref a := rx
  exact getattr_ok I1 ea c n l fun u' s2 I2 ru => ⟨v, H1, I2, ru, q⟩
section
variable {D : Ends} {σ : L2.St} {H : Hp} {Q : VK} {C p q dx dy : Addr} {t b u c i : Int} {sp : Sp} {E : XK} {ta tb : TE} {f : Str}
theorem x_top (h : H p = some (.ins C dx (RF t b))) : rFld C "top" (.ref p) H Q = Q (.int t) H := propext (Iff.intro
  (fun ⟨_, _, _, _, e1, h1, h2, q⟩ => by
    cases e1
    rw [h] at h1
    cases h1
    cases h2
    exact q)
  (fun q => ⟨_, _, _, _, rfl, h, rfl, q⟩))
theorem bottom_ne : (("bottom" : Str) == "top") = false := by decide +kernel
theorem look_bottom : List.lookup ("bottom" : Str) (RF t b) = some (.int b) := by
  simp only [RF, List.lookup, bottom_ne, beq_self_eq_true]
theorem x_bot (h : H p = some (.ins C dx (RF t b))) : rFld C "bottom" (.ref p) H Q = Q (.int b) H := propext (Iff.intro
  (fun ⟨_, _, _, _, e1, h1, h2, q⟩ => by
    cases e1
    rw [h] at h1
    cases h1
    rw [look_bottom] at h2
    cases h2
    exact q)
  (fun q => ⟨_, _, _, _, rfl, h, look_bottom, q⟩))
theorem x_isII : rIsA C [.int i, .ty "int"] H Q = Q (.bl true) H := propext (Iff.intro (fun ⟨_, h, q⟩ => by cases h; exact q) fun q => ⟨_, .ii _, q⟩)
theorem x_isIC : rIsA C [.int i, .ref C] H Q = Q (.bl false) H := propext (Iff.intro (fun ⟨_, h, q⟩ => by cases h; exact q) fun q => ⟨_, .ic _, q⟩)
theorem x_isRI {fs : List (Str × V)} (h : H p = some (.ins C dx fs)) : rIsA C [.ref p, .ty "int"] H Q = Q (.bl false) H := propext (Iff.intro (fun ⟨_, h, q⟩ => by cases h; exact q) fun q => ⟨_, .ri h, q⟩)
theorem x_isRC {fs : List (Str × V)} (h : H p = some (.ins C dx fs)) : rIsA C [.ref p, .ref C] H Q = Q (.bl true) H := propext (Iff.intro (fun ⟨_, h, q⟩ => by cases h; exact q) fun q => ⟨_, .rc h, q⟩)
theorem x_make {dvs : List V} {t : TA} : tMake C sp dvs E t σ H Q = t σ H (fun vs H1 => ∀ x dx, H1 x = none → H1 dx = none → dx ≠ x →
  sp (.ref x :: (vs ++ dvs)) (upd (upd H1 dx (.own x)) x (.ins C dx [])) (fun v H2 => v = .non ∧ Q (.ref x) H2) E) := rfl
theorem x_own2 {fs gs : List (Str × V)} (h : H p = some (.ins C dx fs)) (h' : H q = some (.ins C dy gs)) : rOwn2 C sp E (.ref p) (.ref q) H Q = sp [.ref p, .ref q] H Q E := propext (Iff.intro
  (fun ⟨_, _, _, _, _, _, e1, e2, _, _, q⟩ => by cases e1; cases e2; exact q) (fun q => ⟨_, _, _, _, _, _, rfl, rfl, h, h', q⟩))
theorem x_ownI {fs : List (Str × V)} (h : H p = some (.ins C dx fs)) : rOwnI C sp E (.ref p) (.int i) H Q = sp [.ref p, .int i] H Q E := propext (Iff.intro
  (fun ⟨_, _, _, _, e1, e2, _, q⟩ => by cases e1; cases e2; exact q) (fun q => ⟨_, _, _, _, rfl, rfl, h, q⟩))
theorem x_ownR {fs : List (Str × V)} (h : H p = some (.ins C dx fs)) : rOwnR C sp E (.int i) (.ref p) H Q = sp [.ref p, .int i] H Q E := propext (Iff.intro
  (fun ⟨_, _, _, _, e1, e2, _, q⟩ => by cases e1; cases e2; exact q) (fun q => ⟨_, _, _, _, rfl, rfl, h, q⟩))
theorem x_ownU {fs : List (Str × V)} (h : H p = some (.ins C dx fs)) : rOwnU C sp E (.ref p) H Q = sp [.ref p] H Q E := propext (Iff.intro
  (fun ⟨_, _, _, e1, _, q⟩ => by cases e1; exact q) (fun q => ⟨_, _, _, rfl, h, q⟩))
theorem x_ownAbs {fs : List (Str × V)} (h : H p = some (.ins C dx fs)) : rOwnAbs C sp E [.ref p] H Q = sp [.ref p] H Q E := propext (Iff.intro
  (fun ⟨_, _, _, e1, _, q⟩ => by cases e1; exact q) (fun q => ⟨_, _, _, rfl, h, q⟩))
theorem x_ownBool {fs : List (Str × V)} (h : H p = some (.ins C dx fs)) : rOwnBool C sp E [.ref p] H Q = sp [.ref p] H (fun v H' => ∃ b, v = .bl b ∧ Q (.bl b) H') E := propext (Iff.intro
  (fun ⟨_, _, _, e1, _, q⟩ => by cases e1; exact q) (fun q => ⟨_, _, _, rfl, h, q⟩))
theorem x_meth {m : Str} {dvs : List V} {t : TA} : tMeth C m sp dvs E ta t σ H Q = ta σ H (fun x H1 => ∃ a dx fs, x = .ref a ∧ H1 a = some (.ins C dx fs) ∧ fs.lookup m = none ∧ t σ H1 fun vs H2 => sp (x :: (vs ++ dvs)) H2 Q E) := rfl
theorem x_bool1 : rBool1 [.int i] H Q = Q (.bl (i != 0)) H := by
  unfold rBool1
  simp
end
/-! ### numbers in their lowest terms -/
/-- t / b is x / y in lowest terms -/
structure Norm (t b x y : Int) : Prop where
  pos : 0 < b
  eq : t * y = x * b
  cop : Nat.gcd t.natAbs b.natAbs = 1
theorem Norm.cross {t b x y x' y' : Int} (h : Norm t b x y) (hy : y ≠ 0) (e : x * y' = x' * y) : Norm t b x' y' := by
  refine ⟨h.pos, ?_, h.cop⟩
  have h1 := h.eq
  refine Int.eq_of_mul_eq_mul_right hy ?_
  calc t * y' * y = (t * y) * y' := by rw [Int.mul_assoc, Int.mul_comm y' y, Int.mul_assoc]
    _ = (x * b) * y' := by rw [h1]
    _ = (x * y') * b := by rw [Int.mul_assoc, Int.mul_comm b y', Int.mul_assoc]
    _ = (x' * y) * b := by rw [e]
    _ = x' * b * y := by rw [Int.mul_assoc, Int.mul_comm y b, Int.mul_assoc]
theorem Norm.le {t b x y : Int} (h : Norm t b x y) (hy : y ≠ 0) : t.natAbs ≤ x.natAbs ∧ b.natAbs ≤ y.natAbs := by
  have e : t.natAbs * y.natAbs = x.natAbs * b.natAbs := by
    rw [← Int.natAbs_mul, ← Int.natAbs_mul, h.eq]
  have c : Nat.Coprime t.natAbs b.natAbs := h.cop
  have hy' : 0 < y.natAbs := by omega
  constructor
  · have d : t.natAbs ∣ x.natAbs * b.natAbs := ⟨_, e.symm⟩
    have d' := Nat.Coprime.dvd_of_dvd_mul_right c d
    by_cases hx : x.natAbs = 0
    · rw [hx, Nat.zero_mul] at e
      have := Nat.mul_eq_zero.mp e
      omega
    · exact Nat.le_of_dvd (by omega) d'
  · have d : b.natAbs ∣ t.natAbs * y.natAbs := ⟨_, by rw [e, Nat.mul_comm]⟩
    exact Nat.le_of_dvd hy' (Nat.Coprime.dvd_of_dvd_mul_left c.symm d)
/-- what the constructor stores is in lowest terms: g the common divisor with the sign of y -/
theorem norm_mk {x y g : Int} (hy : y ≠ 0) (hg : g = (if y < 0 then -((Nat.gcd x.natAbs y.natAbs : Nat) : Int) else ((Nat.gcd x.natAbs y.natAbs : Nat) : Int))) : g ≠ 0 ∧ g.natAbs = Nat.gcd x.natAbs y.natAbs ∧ Norm (x.fdiv g) (y.fdiv g) x y := by
  have hG : 0 < Nat.gcd x.natAbs y.natAbs := Nat.gcd_pos_of_pos_right _ (by omega)
  have dx : ((Nat.gcd x.natAbs y.natAbs : Nat) : Int) ∣ x := Int.ofNat_dvd_left.mpr (Nat.gcd_dvd_left _ _)
  have dy : ((Nat.gcd x.natAbs y.natAbs : Nat) : Int) ∣ y := Int.ofNat_dvd_left.mpr (Nat.gcd_dvd_right _ _)
  generalize hn : Nat.gcd x.natAbs y.natAbs = n at hg hG dx dy
  have gn : g ≠ 0 := by subst hg; split <;> omega
  have ga : g.natAbs = n := by subst hg; split <;> omega
  have gx : g ∣ x := by
    subst hg
    split
    · exact Int.neg_dvd.mpr dx
    · exact dx
  have gy : g ∣ y := by
    subst hg
    split
    · exact Int.neg_dvd.mpr dy
    · exact dy
  obtain ⟨a, rfl⟩ := gx
  obtain ⟨c, rfl⟩ := gy
  refine ⟨gn, ga, ?_⟩
  rw [Int.mul_fdiv_cancel_left _ gn, Int.mul_fdiv_cancel_left _ gn]
  refine ⟨?_, ?_, ?_⟩
  · rw [Int.lt_iff_le_and_ne]
    by_cases hneg : g * c < 0
    · rw [if_pos hneg] at hg
      have : g < 0 := by omega
      have hc : 0 < c := Int.pos_of_mul_neg_left (by rw [Int.mul_comm]; exact hneg) this
      exact ⟨by omega, by omega⟩
    · rw [if_neg hneg] at hg
      have : 0 < g := by omega
      have hc : 0 ≤ c := Int.nonneg_of_mul_nonneg_right (by omega) this
      have : c ≠ 0 := fun e => hy (by rw [e, Int.mul_zero])
      exact ⟨by omega, by omega⟩
  · rw [← Int.mul_assoc, Int.mul_comm a g]
  · rw [Int.natAbs_mul, Int.natAbs_mul, Nat.gcd_mul_left, ga] at hn
    have h2 : n * Nat.gcd a.natAbs c.natAbs = n * 1 := by rw [hn, Nat.mul_one]
    exact Nat.eq_of_mul_eq_mul_left hG h2
end SpX

set_option Elab.async false
set_option linter.all false
set_option maxRecDepth 100000
set_option maxHeartbeats 4000000
/-! What the laws draw: the pool, an int below a bound, the greatest common divisor. -/
namespace SpX
open PySem PySem.Spec L2
def t_pool (K : PySem.W.Frag) : TS :=
    (tSeq (tAsg (tLst tNil) (gName 1))
    (tSeq (tAsg (tLst tNil) (gName 2))
    (tSeq (tFor (iList K (tVar 0)) (gName 3) ((tIfS (tTest (tOp (rI0 fun i j => .bl (decide (j ≤ i))) (tCB rAbs1 (tCons (tCB rInt1 (tCons (tVar 3) tNil)) tNil)) (tOp (rI CPow fun i j => .int (i ^ j.toNat)) (tC (.int 10)) (tC (.int 18))))) (tDrop (tBM K "list" rAppend (tVar 1) (tCons (tCB rAbs1 (tCons (tCB rInt1 (tCons (tVar 3) tNil)) tNil)) tNil))) (tDrop (tBM K "list" rAppend (tVar 2) (tCons (tCB rAbs1 (tCons (tCB rInt1 (tCons (tVar 3) tNil)) tNil)) tNil))))))
    (tSeq (tIfS (tTest (tOp rEq (tCB rLenA (tCons (tVar 2) tNil)) (tC (.int 0)))) (tDrop (tBM K "list" rAppend (tVar 2) (tCons (tCB rLenA (tCons (tVar 1) tNil)) tNil))) tNext)
    (tRet (tLst (tCons (tVar 1) (tCons (tVar 2) (tCons (tC (.int 0)) tNil)))))))))
def t_take (K : PySem.W.Frag) : TS :=
    (tSeq (tIfS (tTest (tOp (rI0 fun i j => .bl (decide (i < j))) (tVar 1) (tC (.int 2)))) (tRet (tC (.int 0))) tNext)
    (tSeq (tIfS (tTest (tOp (rI0 fun i j => .bl (decide (j < i))) (tCB rLenA (tCons (tOp rIx1 (tVar 0) (tC (.int 0))) tNil)) (tC (.int 0)))) (tSeq (tAsg (tOp rIx1 (tOp rIx1 (tVar 0) (tC (.int 0))) (tC (.int 0))) (gName 5))
    (tSeq (tAsg (tCB rListA (tCons (tSl rSlA (tOp rIx1 (tVar 0) (tC (.int 0))) (tPart (tC (.int 1))) tNoPart) tNil)) (gName 6))
    (tSeq (tIfS (tTest (tOp (rI0 fun i j => .bl (decide (j < i))) (tOp (rI CDivF fun i j => .int (i.fdiv j)) (tVar 5) (tVar 1)) (tC (.int 0)))) (tAsg (tOp rCat (tLst (tCons (tOp (rI CDivF fun i j => .int (i.fdiv j)) (tVar 5) (tVar 1)) tNil)) (tVar 6)) (gName 6)) tNext)
    (tSeq (tAsg (tVar 6) (gSub (tVar 0) (tC (.int 0)) rSetL))
    (tRet (tOp (rI (fun _ j => 0 < j) fun i j => .int (i % j)) (tCB rInt1 (tCons (tVar 5) tNil)) (tVar 1))))))) tNext)
    (tSeq (tAsg (tOp rIx1 (tVar 0) (tC (.int 2))) (gName 2))
    (tSeq (tAsg (tOp (rI0 fun i j => .int (i + j)) (tVar 2) (tC (.int 1))) (gSub (tVar 0) (tC (.int 2)) rSetL))
    (tSeq (tAsg (tOp rIx1 (tOp rIx1 (tVar 0) (tC (.int 1))) (tOp (rI (fun _ j => 0 < j) fun i j => .int (i % j)) (tCB rInt1 (tCons (tOp (rI CDivF fun i j => .int (i.fdiv j)) (tVar 2) (tC (.int 4))) tNil)) (tCB rLenA (tCons (tOp rIx1 (tVar 0) (tC (.int 1))) tNil)))) (gName 3))
    (tSeq (tAsg (tOp (rI (fun _ j => 0 < j) fun i j => .int (i % j)) (tCB rInt1 (tCons (tOp (rI0 fun i j => .int (i + j)) (tOp (rI0 fun i j => .int (i + j)) (tOp (rI IntMulOk fun i j => .int (i * j)) (tVar 3) (tC (.int 48271))) (tOp (rI IntMulOk fun i j => .int (i * j)) (tVar 2) (tC (.int 69621)))) (tC (.int 12345))) tNil)) (tC (.int 2147483647))) (gName 4))
    (tSeq (tAsg (tOp (rI (fun _ j => 0 < j) fun i j => .int (i % j)) (tCB rInt1 (tCons (tOp (rI0 fun i j => .int (i + j)) (tOp (rI0 fun i j => .int (i + j)) (tOp (rI IntMulOk fun i j => .int (i * j)) (tVar 4) (tVar 4)) (tOp (rI IntMulOk fun i j => .int (i * j)) (tVar 2) (tC (.int 40692)))) (tC (.int 7))) tNil)) (tC (.int 2147483399))) (gName 4))
    (tSeq (tAsg (tOp (rI (fun _ j => 0 < j) fun i j => .int (i % j)) (tCB rInt1 (tCons (tOp (rI0 fun i j => .int (i + j)) (tOp (rI0 fun i j => .int (i + j)) (tOp (rI IntMulOk fun i j => .int (i * j)) (tVar 4) (tVar 4)) (tVar 3)) (tC (.int 3))) tNil)) (tC (.int 2147483563))) (gName 4))
    (tRet (tOp (rI (fun _ j => 0 < j) fun i j => .int (i % j)) (tCB rInt1 (tCons (tOp (rI CDivF fun i j => .int (i.fdiv j)) (tVar 4) (tC (.int 7))) tNil)) (tVar 1)))))))))))
def t_integer (K : PySem.W.Frag) : TS :=
    (tRet (tAndV (tCB (rIsi K) (tCons (tVar 0) (tCons (tC (.ty "int")) tNil))) (tNotV (tCB (rIsi K) (tCons (tVar 0) (tCons (tC (.ty "bool")) tNil))))))
def t_common (K : PySem.W.Frag) : TS :=
    (tSeq (tAsg (tCB rAbs1 (tCons (tVar 0) tNil)) (gName 0))
    (tSeq (tAsg (tCB rAbs1 (tCons (tVar 1) tNil)) (gName 1))
    (tSeq (tFor (iRng1 (tCons (tOp (rI0 fun i j => .int (i + j)) (tOp (rI IntMulOk fun i j => .int (i * j)) (tC (.int 2)) (tBits (tVar 1))) (tC (.int 2))) tNil)) (gName 2) ((tSeq (tIfS (tTest (tOp rEq (tVar 1) (tC (.int 0)))) (tRet (tVar 0)) tNext)
    (tSeq (tAsg (tOp (rI (fun _ j => 0 < j) fun i j => .int (i % j)) (tCB rInt1 (tCons (tVar 0) tNil)) (tVar 1)) (gName 3))
    (tSeq (tAsg (tVar 1) (gName 0))
    (tAsg (tVar 3) (gName 1)))))))
    (tRet (tVar 0)))))
/-- a pool: two lists of ints (the second not empty) and a count -/
structure PoolIs (H : Hp) (P g s : Addr) (G S : List Int) (c : Int) : Prop where
  p : H P = some (.lst [.ref g, .ref s, .int c])
  g : H g = some (.lst (G.map V.int))
  s : H s = some (.lst (S.map V.int))
  lg : G.length ≤ 64
  ls : S.length ≤ 64
  ne : S ≠ []
def PoolAt (H : Hp) (P : Addr) : Prop := ∃ g s G S c, PoolIs H P g s G S c
theorem PoolIs.pg {H : Hp} {P g s : Addr} {G S : List Int} {c : Int} (h : PoolIs H P g s G S c) : g ≠ P := fun e => by
  have h1 := h.g
  rw [e, h.p] at h1
  cases G with
  | nil => cases h1
  | cons a r => cases h1
theorem PoolIs.ps {H : Hp} {P g s : Addr} {G S : List Int} {c : Int} (h : PoolIs H P g s G S c) : s ≠ P := fun e => by
  have h1 := h.s
  rw [e, h.p] at h1
  cases S with
  | nil => cases h1
  | cons a r => cases h1
/-- the pool, an int below the bound; nothing but the pool changes -/
def spTake : Sp := fun vs H Q _ => ∃ (P : Addr) (most : Int), vs = [.ref P, .int most] ∧ PoolAt H P ∧ most.natAbs < 2 ^ 8000 ∧
  ∀ (r : Int) (H' : Hp), PoolAt H' P → Keep P H H' → 0 ≤ r → (2 ≤ most → r < most) → (most < 2 → r = 0) → Q (.int r) H'
theorem atI_map {S : List Int} {i : Int} (h0 : 0 ≤ i) (h1 : i < (S.length : Int)) : ∃ z, atI (S.map V.int) i = some (.int z) := by
  obtain ⟨n, rfl⟩ := Int.eq_ofNat_of_zero_le h0
  have hn : n < S.length := by omega
  refine ⟨S[n], ?_⟩
  rw [atI_nat (v := .int S[n]) (by rw [List.getElem?_map, List.getElem?_eq_getElem hn]; rfl)]
theorem small_div {i : Int} {j : Int} (h : 0 < j ∧ j < 1000) : CDivF i j := ⟨by omega, by
  have h1 : j.natAbs < 2 ^ 10 := by omega
  exact Nat.lt_of_lt_of_le (PySem.Flt.log2_lt_of (by decide) h1) (by decide)⟩
theorem pos_div {i : Int} {j : Int} (h0 : 0 < j) (h : j.natAbs < 2 ^ 8000) : CDivF i j := ⟨by omega, Nat.lt_of_lt_of_le (PySem.Flt.log2_lt_of (by decide) h) (by decide)⟩
theorem any_div {i : Int} {j : Int} (h0 : j ≠ 0) (h : j.natAbs < 2 ^ 8000) : CDivF i j := ⟨h0, Nat.lt_of_lt_of_le (PySem.Flt.log2_lt_of (by decide) h) (by decide)⟩
theorem pure_take {K : PySem.W.Frag} (vs : List V) (H : Hp) (Q : VK) (E : XK) (h : spTake vs H Q E) : t_take K { nx := fun _ H' => Q .non H', rt := Q } (start ["pool", "most", "count", "seed", "mixed", "value", "rest"] vs) H := by
  obtain ⟨P, most, rfl, ⟨g, s, G, S, c, hp⟩, hm, k⟩ := h
  have npg := hp.pg
  have nps := hp.ps
  obtain ⟨h1, h2, h3, hG, hS, hS0⟩ := id hp
  show t_take K _ [some (.ref P), some (.int most), none, none, none, none, none] H
  unfold t_take
  have a0 : atI [V.ref g, .ref s, .int c] 0 = some (.ref g) := rfl
  have a1 : atI [V.ref g, .ref s, .int c] 1 = some (.ref s) := rfl
  have a2 : atI [V.ref g, .ref s, .int c] 2 = some (.int c) := rfl
  have ix0 : ixN [V.ref g, .ref s, .int c].length 0 = some 0 := rfl
  have ix2 : ixN [V.ref g, .ref s, .int c].length 2 = some 2 := rfl
  simp only [x_seq, x_if, x_test, x_B, x_op, x_un, x_varS, x_var0, x_c, x_I0, x_I, x_U, x_bl, x_ret, x_next, x_asg, x_name, x_set0, x_setS, x_drop, x_cb, x_cons, x_nil, x_int1, x_abs1, x_max2, x_gcd, x_gsub, x_sl, x_part, x_nopart, x_int, x_call, x_lst, x_tup, x_not, x_and, x_or, x_andV, x_orV, x_notV, x_ifE, x_eqI, x_neI, x_eqB, x_neB, x_tbm, decide_eq_true_eq, List.append_nil, x_ix h1 a0, x_lenA h2, List.length_map]
  refine ite2 (fun hlt => k 0 H ⟨g, s, G, S, c, hp⟩ (Keep.refl _ _) (Int.le_refl _) (fun z => absurd hlt (by omega)) fun _ => rfl) fun hge => ?_
  have hmost : (0 : Int) < most := by omega
  refine ite2 (fun hlen => ?_) (fun hlen => ?_)
  · -- an int of the greats
    obtain ⟨z, G', rfl⟩ : ∃ z G', G = z :: G' := by
      cases G with
      | nil => exact absurd hlen (by simp)
      | cons a r => exact ⟨a, r, rfl⟩
    have b0 : atI ((z :: G').map V.int) 0 = some (.int z) := atI_0
    have ec : cutV ((z :: G').map V.int) (some 1) none = G'.map V.int := by
      unfold cutV
      rw [show (1 : Int) = ((1 : Nat) : Int) from rfl, HT.sIx_nat, HT.sIx_none]
      simp only [List.map_cons, List.length_cons, List.length_map, Nat.add_sub_cancel]
      rw [Nat.min_eq_left (by omega)]
      simp only [List.drop_succ_cons, List.drop_zero, Nat.add_sub_cancel]
      rw [← List.length_map (f := V.int) (as := G'), List.take_length]
    simp only [x_seq, x_if, x_test, x_B, x_op, x_un, x_varS, x_var0, x_c, x_I0, x_I, x_U, x_bl, x_ret, x_next, x_asg, x_name, x_set0, x_setS, x_drop, x_cb, x_cons, x_nil, x_int1, x_abs1, x_max2, x_gcd, x_gsub, x_sl, x_part, x_nopart, x_int, x_call, x_lst, x_tup, x_not, x_and, x_or, x_andV, x_orV, x_notV, x_ifE, x_eqI, x_neI, x_eqB, x_neB, x_tbm, decide_eq_true_eq, List.append_nil, x_ix h2 b0, x_ix h1 a0, x_slA h2, ec]
    intro q hq
    have hq1 : (upd H q (.lst (G'.map V.int))) q = some (.lst (G'.map V.int)) := upd_same
    simp only [x_listA hq1]
    intro q2 hq2
    have e2 : (upd (upd H q (.lst (G'.map V.int))) q2 (.lst (G'.map V.int))) q2 = some (.lst (G'.map V.int)) := upd_same
    have s2 : Same H (upd (upd H q (.lst (G'.map V.int))) q2 (.lst (G'.map V.int))) := Same.new' (Same.new hq) hq2
    generalize (upd (upd H q (.lst (G'.map V.int))) q2 (.lst (G'.map V.int))) = H2 at e2 s2
    -- behind: the rest is stored, the remainder goes back
    have fin : ∀ (r : Addr) (H3 : Hp) (R : List Int), R.length ≤ 64 → H3 r = some (.lst (R.map V.int)) → Same H H3 →
        Q (.int (z % most)) (upd H3 P (.lst [.ref r, .ref s, .int c])) := by
      intro r H3 R hR hr s3
      have hrP : r ≠ P := by
        intro e
        have hP := s3 _ _ h1
        rw [e, hP] at hr
        cases R with
        | nil => cases hr
        | cons a l => cases hr
      refine k _ _ ⟨r, s, R, S, c, ⟨upd_same, ?_, ?_, hR, hS, hS0⟩⟩ (Keep.at (Keep.of s3)) (Int.emod_nonneg _ (by omega)) (fun _ => Int.emod_lt_of_pos _ hmost) (fun z => absurd z (by omega))
      · rw [upd_ne hrP]
        exact hr
      · rw [upd_ne nps]
        exact s3 _ _ h3
    have hP2 := s2 _ _ h1
    refine ⟨pos_div hmost hm, ?_⟩
    refine ite2 (fun hd => ?_) (fun hd => ?_)
    · refine ⟨pos_div hmost hm, by show 1 ≤ sizeLine; decide, fun q3 hq3 => ?_⟩
      have e3 : (upd H2 q3 (.lst [.int (z.fdiv most)])) q3 = some (.lst [.int (z.fdiv most)]) := upd_same
      have s3 : Same H2 (upd H2 q3 (.lst [.int (z.fdiv most)])) := Same.new hq3
      have e4 := s3 _ _ e2
      generalize (upd H2 q3 (.lst [.int (z.fdiv most)])) = H3 at e3 s3 e4
      simp only [x_cat e3 e4 (by rw [List.length_map]; exact sl5 (by simp only [List.length_cons] at hG; simp only [List.length_cons, List.length_nil]; omega))]
      intro q4 hq4
      have e5 : (upd H3 q4 (.lst ([V.int (z.fdiv most)] ++ G'.map V.int))) q4 = some (.lst ((z.fdiv most :: G').map V.int)) := upd_same
      have s5 : Same H (upd H3 q4 (.lst ([V.int (z.fdiv most)] ++ G'.map V.int))) := Same.new' (s2.trans s3) hq4
      generalize (upd H3 q4 (.lst ([V.int (z.fdiv most)] ++ G'.map V.int))) = H5 at e5 s5
      simp only [x_seq, x_if, x_test, x_B, x_op, x_un, x_varS, x_var0, x_c, x_I0, x_I, x_U, x_bl, x_ret, x_next, x_asg, x_name, x_set0, x_setS, x_drop, x_cb, x_cons, x_nil, x_int1, x_abs1, x_max2, x_gcd, x_gsub, x_sl, x_part, x_nopart, x_int, x_call, x_lst, x_tup, x_not, x_and, x_or, x_andV, x_orV, x_notV, x_ifE, x_eqI, x_neI, x_eqB, x_neB, x_tbm, decide_eq_true_eq, List.append_nil, x_setL (s5 _ _ h1) ix0]
      exact ⟨hmost, fin q4 H5 (z.fdiv most :: G') hG e5 s5⟩
    · simp only [x_seq, x_if, x_test, x_B, x_op, x_un, x_varS, x_var0, x_c, x_I0, x_I, x_U, x_bl, x_ret, x_next, x_asg, x_name, x_set0, x_setS, x_drop, x_cb, x_cons, x_nil, x_int1, x_abs1, x_max2, x_gcd, x_gsub, x_sl, x_part, x_nopart, x_int, x_call, x_lst, x_tup, x_not, x_and, x_or, x_andV, x_orV, x_notV, x_ifE, x_eqI, x_neI, x_eqB, x_neB, x_tbm, decide_eq_true_eq, List.append_nil, x_setL hP2 ix0]
      exact ⟨hmost, fin q2 H2 G' (by simp only [List.length_cons] at hG; omega) e2 s2⟩
  · -- an int reckoned of the smalls
    have h4 : (upd H P (.lst [.ref g, .ref s, .int (c + 1)])) P = some (.lst [.ref g, .ref s, .int (c + 1)]) := upd_same
    have h5 : (upd H P (.lst [.ref g, .ref s, .int (c + 1)])) s = some (.lst (S.map V.int)) := by
      rw [upd_ne nps]
      exact h3
    have hp4 : PoolAt (upd H P (.lst [.ref g, .ref s, .int (c + 1)])) P := ⟨g, s, G, S, c + 1, ⟨h4, by rw [upd_ne npg]; exact h2, h5, hG, hS, hS0⟩⟩
    have k4 : Keep P H (upd H P (.lst [.ref g, .ref s, .int (c + 1)])) := Keep.at (Keep.refl _ _)
    have es : ([V.ref g, .ref s, .int c].set 2 (.int (c + 1))) = [V.ref g, .ref s, .int (c + 1)] := rfl
    have b1 : atI [V.ref g, .ref s, .int (c + 1)] 1 = some (.ref s) := rfl
    simp only [x_seq, x_if, x_test, x_B, x_op, x_un, x_varS, x_var0, x_c, x_I0, x_I, x_U, x_bl, x_ret, x_next, x_asg, x_name, x_set0, x_setS, x_drop, x_cb, x_cons, x_nil, x_int1, x_abs1, x_max2, x_gcd, x_gsub, x_sl, x_part, x_nopart, x_int, x_call, x_lst, x_tup, x_not, x_and, x_or, x_andV, x_orV, x_notV, x_ifE, x_eqI, x_neI, x_eqB, x_neB, x_tbm, decide_eq_true_eq, List.append_nil, x_ix h1 a2, x_setL h1 ix2, es]
    generalize (upd H P (.lst [.ref g, .ref s, .int (c + 1)])) = H4 at h4 h5 hp4 k4
    have hSl : (0 : Int) < (S.length : Int) := by
      cases S with
      | nil => exact absurd rfl hS0
      | cons a r => simp only [List.length_cons]; omega
    simp only [x_seq, x_if, x_test, x_B, x_op, x_un, x_varS, x_var0, x_c, x_I0, x_I, x_U, x_bl, x_ret, x_next, x_asg, x_name, x_set0, x_setS, x_drop, x_cb, x_cons, x_nil, x_int1, x_abs1, x_max2, x_gcd, x_gsub, x_sl, x_part, x_nopart, x_int, x_call, x_lst, x_tup, x_not, x_and, x_or, x_andV, x_orV, x_notV, x_ifE, x_eqI, x_neI, x_eqB, x_neB, x_tbm, decide_eq_true_eq, List.append_nil, x_ix h4 b1, x_lenA h5, List.length_map]
    refine ⟨small_div (by decide), hSl, ?_⟩
    obtain ⟨sd, hsd⟩ := atI_map (S := S) (i := (c.fdiv 4) % (S.length : Int)) (Int.emod_nonneg _ (by omega)) (Int.emod_lt_of_pos _ hSl)
    simp only [x_seq, x_if, x_test, x_B, x_op, x_un, x_varS, x_var0, x_c, x_I0, x_I, x_U, x_bl, x_ret, x_next, x_asg, x_name, x_set0, x_setS, x_drop, x_cb, x_cons, x_nil, x_int1, x_abs1, x_max2, x_gcd, x_gsub, x_sl, x_part, x_nopart, x_int, x_call, x_lst, x_tup, x_not, x_and, x_or, x_andV, x_orV, x_notV, x_ifE, x_eqI, x_neI, x_eqB, x_neB, x_tbm, decide_eq_true_eq, List.append_nil, x_ix h5 hsd]
    refine ⟨mul_lit (by decide), mul_lit (by decide), by decide, ?_⟩
    generalize (sd * 48271 + c * 69621 + 12345) = m0
    have hm0 : -(2 ^ 64) < m0 % 2147483647 ∧ m0 % 2147483647 < 2 ^ 64 := by omega
    refine ⟨mul_lit hm0, mul_lit (by decide), by decide, ?_⟩
    generalize (m0 % 2147483647 * (m0 % 2147483647) + c * 40692 + 7) = m1
    have hm1 : -(2 ^ 64) < m1 % 2147483399 ∧ m1 % 2147483399 < 2 ^ 64 := by omega
    refine ⟨mul_lit hm1, by decide, small_div (by decide), hmost, ?_⟩
    exact k _ _ hp4 k4 (Int.emod_nonneg _ (by omega)) (fun _ => Int.emod_lt_of_pos _ hmost) (fun z => absurd z (by omega))

/-- a new pool of the script -/
def spPool (K : PySem.W.Frag) : Sp := fun vs H Q _ => ∃ (a : Addr) (ns : List Int), vs = [.ref a] ∧ SqL K H a (ns.map V.int) ∧ ns.length ≤ 63 ∧ ∀ (P : Addr) (H' : Hp), PoolAt H' P → Same H H' → Q (.ref P) H'
theorem pure_pool {K : PySem.W.Frag} (vs : List V) (H : Hp) (Q : VK) (E : XK) (h : spPool K vs H Q E) : t_pool K { nx := fun _ H' => Q .non H', rt := Q } (start ["script", "greats", "smalls", "cell"] vs) H := by
  obtain ⟨a, ns, rfl, hS, hn, k⟩ := h
  show t_pool K _ [some (.ref a), none, none, none] H
  unfold t_pool
  simp only [x_seq, x_if, x_test, x_B, x_op, x_un, x_varS, x_var0, x_c, x_I0, x_I, x_U, x_bl, x_ret, x_next, x_asg, x_name, x_set0, x_setS, x_drop, x_cb, x_cons, x_nil, x_int1, x_abs1, x_max2, x_gcd, x_gsub, x_sl, x_part, x_nopart, x_int, x_call, x_lst, x_tup, x_not, x_and, x_or, x_andV, x_orV, x_notV, x_ifE, x_eqI, x_neI, x_eqB, x_neB, x_tbm, decide_eq_true_eq, List.append_nil]
  refine ⟨by decide, fun g hg => ⟨by decide, fun s hs => ?_⟩⟩
  have ngs : s ≠ g := fun e => by
    subst e
    rw [upd_same] at hs
    cases hs
  have s0 : Same H (upd (upd H g (.lst [])) s (.lst [])) := Same.new' (Same.new hg) hs
  have hs0 : H s = none := (Same.new hg).free hs
  refine ⟨_, rfl, a, rfl, ⟨_, s0.seq hS⟩, for_list (K := K) (a := a) (xs := ns.map V.int) (fun i σ H' => ∃ (G S : List Int) (cl : Option V), σ = [some (.ref a), some (.ref g), some (.ref s), cl] ∧ H' g = some (.lst (G.map V.int)) ∧ H' s = some (.lst (S.map V.int)) ∧ G.length ≤ i ∧ S.length ≤ i ∧ Same H H')
    ⟨[], [], none, rfl, by rw [upd_ne ngs.symm, upd_same]; rfl, by rw [upd_same]; rfl, Nat.le_refl _, Nat.le_refl _, s0⟩ (fun i σ H' _ ⟨_, _, _, _, _, _, _, _, s1⟩ => s1.seq hS) ?_ ?_⟩
  · rintro i y σ H' hi ⟨G, S, cl, rfl, h1, h2, l1, l2, s1⟩
    have hil : i < ns.length := by
      have := (List.getElem?_eq_some_iff.mp hi).1
      rwa [List.length_map] at this
    obtain ⟨z, rfl⟩ : ∃ z, y = V.int z := by
      rw [List.getElem?_map] at hi
      cases e : ns[i]? with
      | none => rw [e] at hi; cases hi
      | some z => rw [e] at hi; exact ⟨z, (Option.some.inj hi).symm⟩
    have ha : ∀ (l : List Int) (b : Int), l.map V.int ++ [V.int b] = (l ++ [b]).map V.int := fun l b => by rw [List.map_append]; rfl
    simp only [x_seq, x_if, x_test, x_B, x_op, x_un, x_varS, x_var0, x_c, x_I0, x_I, x_U, x_bl, x_ret, x_next, x_asg, x_name, x_set0, x_setS, x_drop, x_cb, x_cons, x_nil, x_int1, x_abs1, x_max2, x_gcd, x_gsub, x_sl, x_part, x_nopart, x_int, x_call, x_lst, x_tup, x_not, x_and, x_or, x_andV, x_orV, x_notV, x_ifE, x_eqI, x_neI, x_eqB, x_neB, x_tbm, decide_eq_true_eq, List.append_nil]
    refine ⟨⟨by decide, by decide, by decide⟩, ?_⟩
    refine ite2 (fun _ => ?_) (fun _ => ?_)
    · refine ⟨ty_lst h1, ?_⟩
      simp only [x_append h1 (by rw [List.length_map]; exact Nat.lt_of_le_of_lt l1 (Nat.lt_of_lt_of_le (show i < 1000 by omega) (by decide)))]
      refine ⟨G ++ [if z < 0 then -z else z], S, _, rfl, by rw [upd_same, ha], by rw [upd_ne ngs]; exact h2, by rw [List.length_append]; simp; omega, by omega, fun b o e => ?_⟩
      rw [upd_ne (ne_of_none e hg)]
      exact s1 b o e
    · refine ⟨ty_lst h2, ?_⟩
      simp only [x_append h2 (by rw [List.length_map]; exact Nat.lt_of_le_of_lt l2 (Nat.lt_of_lt_of_le (show i < 1000 by omega) (by decide)))]
      refine ⟨G, S ++ [if z < 0 then -z else z], _, rfl, by rw [upd_ne ngs.symm]; exact h1, by rw [upd_same, ha], by omega, by rw [List.length_append]; simp; omega, fun b o e => ?_⟩
      rw [upd_ne (ne_of_none e hs0)]
      exact s1 b o e
  · rintro σ H' ⟨G, S, cl, rfl, h1, h2, l1, l2, s1⟩
    rw [List.length_map] at l1 l2
    -- the pool's own list
    have fin : ∀ (H2 : Hp) (S2 : List Int), H2 g = some (.lst (G.map V.int)) → H2 s = some (.lst (S2.map V.int)) → Same H H2 → S2 ≠ [] → S2.length ≤ 64 → ∀ p, H2 p = none → Q (.ref p) (upd H2 p (.lst [.ref g, .ref s, .int 0])) := by
      intro H2 S2 e1 e2 s2 ne l p hp
      refine k p _ ⟨g, s, G, S2, 0, ⟨upd_same, ?_, ?_, by omega, l, ne⟩⟩ (Same.new' s2 hp)
      · rw [upd_ne (ne_of_none e1 hp)]
        exact e1
      · rw [upd_ne (ne_of_none e2 hp)]
        exact e2
    simp only [x_seq, x_if, x_test, x_B, x_op, x_un, x_varS, x_var0, x_c, x_I0, x_I, x_U, x_bl, x_ret, x_next, x_asg, x_name, x_set0, x_setS, x_drop, x_cb, x_cons, x_nil, x_int1, x_abs1, x_max2, x_gcd, x_gsub, x_sl, x_part, x_nopart, x_int, x_call, x_lst, x_tup, x_not, x_and, x_or, x_andV, x_orV, x_notV, x_ifE, x_eqI, x_neI, x_eqB, x_neB, x_tbm, decide_eq_true_eq, List.append_nil, x_lenA h2, x_lenA h1, List.length_map]
    refine ite2 (fun hz => ?_) (fun hz => ?_)
    · refine ⟨ty_lst h2, ?_⟩
      simp only [x_append h2 (by rw [List.length_map]; exact Nat.lt_of_le_of_lt l2 (Nat.lt_of_lt_of_le (show ns.length < 1000 by omega) (by decide)))]
      have hS0 : S = [] := by
        cases S with
        | nil => rfl
        | cons a r => simp only [List.length_cons] at hz; omega
      subst hS0
      refine ⟨(by show 3 ≤ sizeLine; decide), fin _ [(G.length : Int)] (by rw [upd_ne ngs.symm]; exact h1) (by rw [upd_same]; rfl) (fun b o e => ?_) (by simp) (by simp)⟩
      rw [upd_ne (ne_of_none e hs0)]
      exact s1 b o e
    · exact ⟨(by show 3 ≤ sizeLine; decide), fin _ S h1 h2 s1 (fun e => hz (by subst e; rfl)) (by omega)⟩

/-- an int is told as one -/
def spInteger : Sp := fun vs H Q _ => ∃ i : Int, vs = [.int i] ∧ Q (.bl true) H
theorem pure_integer {K : PySem.W.Frag} (vs : List V) (H : Hp) (Q : VK) (E : XK) (h : spInteger vs H Q E) : t_integer K { nx := fun _ H' => Q .non H', rt := Q } (start ["thing"] vs) H := by
  obtain ⟨i, rfl, k⟩ := h
  show t_integer K _ [some (.int i)] H
  unfold t_integer
  simp only [x_seq, x_if, x_test, x_B, x_op, x_un, x_varS, x_var0, x_c, x_I0, x_I, x_U, x_bl, x_ret, x_next, x_asg, x_name, x_set0, x_setS, x_drop, x_cb, x_cons, x_nil, x_int1, x_abs1, x_max2, x_gcd, x_gsub, x_sl, x_part, x_nopart, x_int, x_call, x_lst, x_tup, x_not, x_and, x_or, x_andV, x_orV, x_notV, x_ifE, x_eqI, x_neI, x_eqB, x_neB, x_tbm, decide_eq_true_eq, List.append_nil]
  refine ⟨_, _, .type "int", .type "int", true, rfl, .ty _, .base (.int _), kit_ty (by decide +kernel), true, rfl, ?_⟩
  rw [if_pos rfl]
  refine ⟨_, _, .type "int", .type "bool", false, rfl, .ty _, .base (.int _), kit_ty (by decide +kernel), false, rfl, ?_⟩
  exact k

/-! ### the greatest common divisor, by Euclid with turns enough -/
theorem emod_half {x y : Int} (hy : 0 < y) (h : y < x) : 2 * (x % y) < x := by
  have h1 : x % y < y := Int.emod_lt_of_pos _ hy
  have h2 : y * (x / y) + x % y = x := Int.mul_ediv_add_emod x y
  have h3 : 1 ≤ x / y := by
    have := Int.le_ediv_of_mul_le (a := 1) hy (by omega : 1 * y ≤ x)
    exact this
  have h4 : y * 1 ≤ y * (x / y) := Int.mul_le_mul_of_nonneg_left h3 (by omega)
  omega
/-- what holds behind i turns: b0 the second number at the start -/
def Eu (a0 b0 : Int) (i : Nat) (x y : Int) : Prop := 0 ≤ x ∧ 0 ≤ y ∧ Nat.gcd x.natAbs y.natAbs = Nat.gcd a0.natAbs b0.natAbs ∧
  ((i % 2 = 0 ∧ 2 ^ (i / 2) * y ≤ b0) ∨ (i % 2 = 1 ∧ 2 ^ (i / 2) * x ≤ b0 ∧ y < x))
theorem Eu.turn {a0 b0 x y : Int} {i : Nat} (h : Eu a0 b0 i x y) (hy : y ≠ 0) : Eu a0 b0 (i + 1) y (x % y) := by
  obtain ⟨h1, h2, h3, h4⟩ := h
  have hp : 0 < y := by omega
  have n1 := Int.emod_nonneg x hy
  have n2 := Int.emod_lt_of_pos x hp
  refine ⟨h2, n1, ?_, ?_⟩
  · rw [← h3]
    have e : (x % y).natAbs = x.natAbs % y.natAbs := by
      have e1 : (x % y).natAbs = (x.natAbs % y.natAbs) := by
        rw [Int.natAbs_emod_of_nonneg h1]
      exact e1
    rw [e, Nat.gcd_comm y.natAbs, ← Nat.gcd_rec, Nat.gcd_comm]
  · rcases h4 with ⟨p, q⟩ | ⟨p, q, r⟩
    · right
      refine ⟨by omega, ?_, n2⟩
      rw [show (i + 1) / 2 = i / 2 by omega]
      exact q
    · left
      refine ⟨by omega, ?_⟩
      have e : (i + 1) / 2 = i / 2 + 1 := by omega
      rw [e, Int.pow_succ, Int.mul_assoc]
      have hh := emod_half hp r
      exact Int.le_trans (Int.mul_le_mul_of_nonneg_left (by omega) (Int.le_of_lt (Int.pow_pos (by decide)))) q
theorem Eu.end_ {a0 b0 x y : Int} {n B : Nat} (h : Eu a0 b0 n x y) (hn : n = 2 * B + 2) (hb : b0 < 2 ^ B) : y = 0 := by
  obtain ⟨h1, h2, h3, h4⟩ := h
  subst hn
  rcases h4 with ⟨p, q⟩ | ⟨p, q, r⟩
  · rw [show (2 * B + 2) / 2 = B + 1 by omega, Int.pow_succ] at q
    by_cases hy : y = 0
    · exact hy
    · exfalso
      have hp : (0 : Int) < 2 ^ B := Int.pow_pos (by decide)
      have h5 : 2 ^ B * 2 * 1 ≤ 2 ^ B * 2 * y := Int.mul_le_mul_of_nonneg_left (by omega) (by omega)
      omega
  · omega
theorem bits_lt (b : Int) (h : 0 ≤ b) : b < 2 ^ (Builtin.Int.intBits b) := by
  unfold Builtin.Int.intBits
  split
  · rename_i hz
    have : b = 0 := by simpa using hz
    subst this
    decide
  · rename_i hz
    have h1 : b.natAbs < 2 ^ (b.natAbs.log2 + 1) := Nat.lt_log2_self
    have h2 : (b.natAbs : Int) < ((2 ^ (b.natAbs.log2 + 1) : Nat) : Int) := Int.ofNat_lt.mpr h1
    rw [Int.natAbs_of_nonneg h] at h2
    simpa using h2
theorem bits_small {b : Int} (h : b.natAbs < 2 ^ 8000) : Builtin.Int.intBits b ≤ 8000 := by
  unfold Builtin.Int.intBits
  split
  · omega
  · have := PySem.Flt.log2_lt_of (by decide) h
    omega
/-- gcd -/
def spCommon : Sp := fun vs H Q _ => ∃ a b : Int, vs = [.int a, .int b] ∧ b.natAbs < 2 ^ 8000 ∧ Q (.int ((Nat.gcd a.natAbs b.natAbs : Nat) : Int)) H
theorem abs_if (a : Int) : (if a < 0 then -a else a) = (a.natAbs : Int) := by split <;> omega
theorem pure_common {K : PySem.W.Frag} (vs : List V) (H : Hp) (Q : VK) (E : XK) (h : spCommon vs H Q E) : t_common K { nx := fun _ H' => Q .non H', rt := Q } (start ["one", "two", "k", "rest"] vs) H := by
  obtain ⟨a, b, rfl, hb, k⟩ := h
  show t_common K _ [some (.int a), some (.int b), none, none] H
  unfold t_common
  simp only [x_seq, x_if, x_test, x_B, x_op, x_un, x_varS, x_var0, x_c, x_I0, x_I, x_U, x_bl, x_ret, x_next, x_asg, x_name, x_set0, x_setS, x_drop, x_cb, x_cons, x_nil, x_int1, x_abs1, x_max2, x_gcd, x_gsub, x_sl, x_part, x_nopart, x_int, x_call, x_lst, x_tup, x_not, x_and, x_or, x_andV, x_orV, x_notV, x_ifE, x_eqI, x_neI, x_eqB, x_neB, x_tbm, decide_eq_true_eq, List.append_nil, abs_if]
  have hB := bits_small (b := (b.natAbs : Int)) (by simpa using hb)
  have hlt := bits_lt (b.natAbs : Int) (by omega)
  refine ⟨_, rfl, _, rfl, _, _, rfl, rfl, mul_lit' (by decide), _, _, rfl, rfl, _, rfl, by omega, by omega, ?_⟩
  rw [show (2 * (Builtin.Int.intBits (b.natAbs : Int) : Int) + 2).toNat = 2 * Builtin.Int.intBits (b.natAbs : Int) + 2 by omega]
  refine for_range (lo := 0) (fun i σ H' => H' = H ∧ ∃ (x y : Int) (u v : Option V), σ = [some (.int x), some (.int y), u, v] ∧ Eu (a.natAbs : Int) (b.natAbs : Int) i x y) ⟨rfl, _, _, none, none, rfl, by omega, by omega, rfl, .inl ⟨rfl, by simp⟩⟩ ?_ ?_
  · rintro i σ H' hi ⟨rfl, x, y, u, v, rfl, hE⟩
    simp only [x_seq, x_if, x_test, x_B, x_op, x_un, x_varS, x_var0, x_c, x_I0, x_I, x_U, x_bl, x_ret, x_next, x_asg, x_name, x_set0, x_setS, x_drop, x_cb, x_cons, x_nil, x_int1, x_abs1, x_max2, x_gcd, x_gsub, x_sl, x_part, x_nopart, x_int, x_call, x_lst, x_tup, x_not, x_and, x_or, x_andV, x_orV, x_notV, x_ifE, x_eqI, x_neI, x_eqB, x_neB, x_tbm, decide_eq_true_eq, List.append_nil]
    refine ite2 (fun hy => ?_) (fun hy => ?_)
    · have h3 := hE.2.2.1
      have h1 := hE.1
      rw [hy] at h3
      simp only [Int.natAbs_zero, Nat.gcd_zero_right, Int.natAbs_natCast] at h3
      rw [show x = ((Nat.gcd a.natAbs b.natAbs : Nat) : Int) by rw [← h3]; omega]
      exact k
    · have := hE.2.1
      exact ⟨by omega, trivial, _, _, _, _, rfl, hE.turn hy⟩
  · rintro σ H' ⟨rfl, x, y, u, v, rfl, hE⟩
    have hy := hE.end_ rfl hlt
    have h3 := hE.2.2.1
    have h1 := hE.1
    rw [hy] at h3
    simp only [Int.natAbs_zero, Nat.gcd_zero_right, Int.natAbs_natCast] at h3
    simp only [x_seq, x_if, x_test, x_B, x_op, x_un, x_varS, x_var0, x_c, x_I0, x_I, x_U, x_bl, x_ret, x_next, x_asg, x_name, x_set0, x_setS, x_drop, x_cb, x_cons, x_nil, x_int1, x_abs1, x_max2, x_gcd, x_gsub, x_sl, x_part, x_nopart, x_int, x_call, x_lst, x_tup, x_not, x_and, x_or, x_andV, x_orV, x_notV, x_ifE, x_eqI, x_neI, x_eqB, x_neB, x_tbm, decide_eq_true_eq, List.append_nil]
    rw [show x = ((Nat.gcd a.natAbs b.natAbs : Nat) : Int) by rw [← h3]; omega]
    exact k
end SpX

set_option Elab.async false
set_option linter.all false
set_option maxRecDepth 100000
set_option maxHeartbeats 2000000
/-! Draws beside lists that grow: the pool's own lists are none of those in B. -/
namespace SpX
open PySem PySem.Spec L2
def PoolB (B : Addr → Prop) (H : Hp) (P : Addr) : Prop := ∃ g s G S c, PoolIs H P g s G S c ∧ ¬ B g ∧ ¬ B s
def spTakeB : Sp := fun vs H Q _ => ∃ (P : Addr) (most : Int) (B : Addr → Prop), vs = [.ref P, .int most] ∧ PoolB B H P ∧ (∀ b, B b → ∃ o, H b = some o) ∧ most.natAbs < 2 ^ 8000 ∧
  ∀ (r : Int) (H' : Hp), PoolB B H' P → Keep P H H' → 0 ≤ r → (2 ≤ most → r < most) → (most < 2 → r = 0) → Q (.int r) H'
theorem pure_takeB {K : PySem.W.Frag} (vs : List V) (H : Hp) (Q : VK) (E : XK) (h : spTakeB vs H Q E) : t_take K { nx := fun _ H' => Q .non H', rt := Q } (start ["pool", "most", "count", "seed", "mixed", "value", "rest"] vs) H := by
  obtain ⟨P, most, B, rfl, ⟨g, s, G, S, c, hp, bg, bs⟩, hB, hm, k⟩ := h
  have npg := hp.pg
  have nps := hp.ps
  obtain ⟨h1, h2, h3, hG, hS, hS0⟩ := id hp
  show t_take K _ [some (.ref P), some (.int most), none, none, none, none, none] H
  unfold t_take
  have a0 : atI [V.ref g, .ref s, .int c] 0 = some (.ref g) := rfl
  have a1 : atI [V.ref g, .ref s, .int c] 1 = some (.ref s) := rfl
  have a2 : atI [V.ref g, .ref s, .int c] 2 = some (.int c) := rfl
  have ix0 : ixN [V.ref g, .ref s, .int c].length 0 = some 0 := rfl
  have ix2 : ixN [V.ref g, .ref s, .int c].length 2 = some 2 := rfl
  simp only [x_seq, x_if, x_test, x_B, x_op, x_un, x_varS, x_var0, x_c, x_I0, x_I, x_U, x_bl, x_ret, x_next, x_asg, x_name, x_set0, x_setS, x_drop, x_cb, x_cons, x_nil, x_int1, x_abs1, x_max2, x_gcd, x_gsub, x_sl, x_part, x_nopart, x_int, x_call, x_lst, x_tup, x_not, x_and, x_or, x_andV, x_orV, x_notV, x_ifE, x_eqI, x_neI, x_eqB, x_neB, x_tbm, decide_eq_true_eq, List.append_nil, List.nil_append, List.cons_append, x_ix h1 a0, x_lenA h2, List.length_map]
  refine ite2 (fun hlt => k 0 H ⟨g, s, G, S, c, hp, bg, bs⟩ (Keep.refl _ _) (Int.le_refl _) (fun z => absurd hlt (by omega)) fun _ => rfl) fun hge => ?_
  have hmost : (0 : Int) < most := by omega
  refine ite2 (fun hlen => ?_) (fun hlen => ?_)
  · -- an int of the greats
    obtain ⟨z, G', rfl⟩ : ∃ z G', G = z :: G' := by
      cases G with
      | nil => exact absurd hlen (by simp)
      | cons a r => exact ⟨a, r, rfl⟩
    have b0 : atI ((z :: G').map V.int) 0 = some (.int z) := atI_0
    have ec : cutV ((z :: G').map V.int) (some 1) none = G'.map V.int := by
      unfold cutV
      rw [show (1 : Int) = ((1 : Nat) : Int) from rfl, HT.sIx_nat, HT.sIx_none]
      simp only [List.map_cons, List.length_cons, List.length_map, Nat.add_sub_cancel]
      rw [Nat.min_eq_left (by omega)]
      simp only [List.drop_succ_cons, List.drop_zero, Nat.add_sub_cancel]
      rw [← List.length_map (f := V.int) (as := G'), List.take_length]
    simp only [x_seq, x_if, x_test, x_B, x_op, x_un, x_varS, x_var0, x_c, x_I0, x_I, x_U, x_bl, x_ret, x_next, x_asg, x_name, x_set0, x_setS, x_drop, x_cb, x_cons, x_nil, x_int1, x_abs1, x_max2, x_gcd, x_gsub, x_sl, x_part, x_nopart, x_int, x_call, x_lst, x_tup, x_not, x_and, x_or, x_andV, x_orV, x_notV, x_ifE, x_eqI, x_neI, x_eqB, x_neB, x_tbm, decide_eq_true_eq, List.append_nil, List.nil_append, List.cons_append, x_ix h2 b0, x_ix h1 a0, x_slA h2, ec]
    intro q hq
    have hq1 : (upd H q (.lst (G'.map V.int))) q = some (.lst (G'.map V.int)) := upd_same
    simp only [x_listA hq1]
    intro q2 hq2
    have e2 : (upd (upd H q (.lst (G'.map V.int))) q2 (.lst (G'.map V.int))) q2 = some (.lst (G'.map V.int)) := upd_same
    have s2 : Same H (upd (upd H q (.lst (G'.map V.int))) q2 (.lst (G'.map V.int))) := Same.new' (Same.new hq) hq2
    have n2 : ¬ B q2 := fun z => by
      obtain ⟨o, e⟩ := hB q2 z
      have e' := Same.new (o := .lst (G'.map V.int)) hq q2 o e
      rw [hq2] at e'
      cases e'
    generalize (upd (upd H q (.lst (G'.map V.int))) q2 (.lst (G'.map V.int))) = H2 at e2 s2
    -- behind: the rest is stored, the remainder goes back
    have fin : ∀ (r : Addr) (H3 : Hp) (R : List Int), ¬ B r → R.length ≤ 64 → H3 r = some (.lst (R.map V.int)) → Same H H3 →
        Q (.int (z % most)) (upd H3 P (.lst [.ref r, .ref s, .int c])) := by
      intro r H3 R nr hR hr s3
      have hrP : r ≠ P := by
        intro e
        have hP := s3 _ _ h1
        rw [e, hP] at hr
        cases R with
        | nil => cases hr
        | cons a l => cases hr
      refine k _ _ ⟨r, s, R, S, c, ⟨upd_same, ?_, ?_, hR, hS, hS0⟩, nr, bs⟩ (Keep.at (Keep.of s3)) (Int.emod_nonneg _ (by omega)) (fun _ => Int.emod_lt_of_pos _ hmost) (fun z => absurd z (by omega))
      · rw [upd_ne hrP]
        exact hr
      · rw [upd_ne nps]
        exact s3 _ _ h3
    have hP2 := s2 _ _ h1
    refine ⟨pos_div hmost hm, ?_⟩
    refine ite2 (fun hd => ?_) (fun hd => ?_)
    · refine ⟨pos_div hmost hm, by show 1 ≤ sizeLine; decide, fun q3 hq3 => ?_⟩
      have e3 : (upd H2 q3 (.lst [.int (z.fdiv most)])) q3 = some (.lst [.int (z.fdiv most)]) := upd_same
      have s3 : Same H2 (upd H2 q3 (.lst [.int (z.fdiv most)])) := Same.new hq3
      have e4 := s3 _ _ e2
      generalize (upd H2 q3 (.lst [.int (z.fdiv most)])) = H3 at e3 s3 e4
      simp only [x_cat e3 e4 (by rw [List.length_map]; exact sl5 (by simp only [List.length_cons] at hG; simp only [List.length_cons, List.length_nil]; omega))]
      intro q4 hq4
      have e5 : (upd H3 q4 (.lst ([V.int (z.fdiv most)] ++ G'.map V.int))) q4 = some (.lst ((z.fdiv most :: G').map V.int)) := upd_same
      have s5 : Same H (upd H3 q4 (.lst ([V.int (z.fdiv most)] ++ G'.map V.int))) := Same.new' (s2.trans s3) hq4
      have n4 : ¬ B q4 := fun w => by
        obtain ⟨o, e⟩ := hB q4 w
        have e' := (s2.trans s3) q4 o e
        rw [hq4] at e'
        cases e'
      generalize (upd H3 q4 (.lst ([V.int (z.fdiv most)] ++ G'.map V.int))) = H5 at e5 s5
      simp only [x_seq, x_if, x_test, x_B, x_op, x_un, x_varS, x_var0, x_c, x_I0, x_I, x_U, x_bl, x_ret, x_next, x_asg, x_name, x_set0, x_setS, x_drop, x_cb, x_cons, x_nil, x_int1, x_abs1, x_max2, x_gcd, x_gsub, x_sl, x_part, x_nopart, x_int, x_call, x_lst, x_tup, x_not, x_and, x_or, x_andV, x_orV, x_notV, x_ifE, x_eqI, x_neI, x_eqB, x_neB, x_tbm, decide_eq_true_eq, List.append_nil, List.nil_append, List.cons_append, x_setL (s5 _ _ h1) ix0]
      exact ⟨hmost, fin q4 H5 (z.fdiv most :: G') n4 hG e5 s5⟩
    · simp only [x_seq, x_if, x_test, x_B, x_op, x_un, x_varS, x_var0, x_c, x_I0, x_I, x_U, x_bl, x_ret, x_next, x_asg, x_name, x_set0, x_setS, x_drop, x_cb, x_cons, x_nil, x_int1, x_abs1, x_max2, x_gcd, x_gsub, x_sl, x_part, x_nopart, x_int, x_call, x_lst, x_tup, x_not, x_and, x_or, x_andV, x_orV, x_notV, x_ifE, x_eqI, x_neI, x_eqB, x_neB, x_tbm, decide_eq_true_eq, List.append_nil, List.nil_append, List.cons_append, x_setL hP2 ix0]
      exact ⟨hmost, fin q2 H2 G' n2 (by simp only [List.length_cons] at hG; omega) e2 s2⟩
  · -- an int reckoned of the smalls
    have h4 : (upd H P (.lst [.ref g, .ref s, .int (c + 1)])) P = some (.lst [.ref g, .ref s, .int (c + 1)]) := upd_same
    have h5 : (upd H P (.lst [.ref g, .ref s, .int (c + 1)])) s = some (.lst (S.map V.int)) := by
      rw [upd_ne nps]
      exact h3
    have hp4 : PoolB B (upd H P (.lst [.ref g, .ref s, .int (c + 1)])) P := ⟨g, s, G, S, c + 1, ⟨h4, by rw [upd_ne npg]; exact h2, h5, hG, hS, hS0⟩, bg, bs⟩
    have k4 : Keep P H (upd H P (.lst [.ref g, .ref s, .int (c + 1)])) := Keep.at (Keep.refl _ _)
    have es : ([V.ref g, .ref s, .int c].set 2 (.int (c + 1))) = [V.ref g, .ref s, .int (c + 1)] := rfl
    have b1 : atI [V.ref g, .ref s, .int (c + 1)] 1 = some (.ref s) := rfl
    simp only [x_seq, x_if, x_test, x_B, x_op, x_un, x_varS, x_var0, x_c, x_I0, x_I, x_U, x_bl, x_ret, x_next, x_asg, x_name, x_set0, x_setS, x_drop, x_cb, x_cons, x_nil, x_int1, x_abs1, x_max2, x_gcd, x_gsub, x_sl, x_part, x_nopart, x_int, x_call, x_lst, x_tup, x_not, x_and, x_or, x_andV, x_orV, x_notV, x_ifE, x_eqI, x_neI, x_eqB, x_neB, x_tbm, decide_eq_true_eq, List.append_nil, List.nil_append, List.cons_append, x_ix h1 a2, x_setL h1 ix2, es]
    generalize (upd H P (.lst [.ref g, .ref s, .int (c + 1)])) = H4 at h4 h5 hp4 k4
    have hSl : (0 : Int) < (S.length : Int) := by
      cases S with
      | nil => exact absurd rfl hS0
      | cons a r => simp only [List.length_cons]; omega
    simp only [x_seq, x_if, x_test, x_B, x_op, x_un, x_varS, x_var0, x_c, x_I0, x_I, x_U, x_bl, x_ret, x_next, x_asg, x_name, x_set0, x_setS, x_drop, x_cb, x_cons, x_nil, x_int1, x_abs1, x_max2, x_gcd, x_gsub, x_sl, x_part, x_nopart, x_int, x_call, x_lst, x_tup, x_not, x_and, x_or, x_andV, x_orV, x_notV, x_ifE, x_eqI, x_neI, x_eqB, x_neB, x_tbm, decide_eq_true_eq, List.append_nil, List.nil_append, List.cons_append, x_ix h4 b1, x_lenA h5, List.length_map]
    refine ⟨small_div (by decide), hSl, ?_⟩
    obtain ⟨sd, hsd⟩ := atI_map (S := S) (i := (c.fdiv 4) % (S.length : Int)) (Int.emod_nonneg _ (by omega)) (Int.emod_lt_of_pos _ hSl)
    simp only [x_seq, x_if, x_test, x_B, x_op, x_un, x_varS, x_var0, x_c, x_I0, x_I, x_U, x_bl, x_ret, x_next, x_asg, x_name, x_set0, x_setS, x_drop, x_cb, x_cons, x_nil, x_int1, x_abs1, x_max2, x_gcd, x_gsub, x_sl, x_part, x_nopart, x_int, x_call, x_lst, x_tup, x_not, x_and, x_or, x_andV, x_orV, x_notV, x_ifE, x_eqI, x_neI, x_eqB, x_neB, x_tbm, decide_eq_true_eq, List.append_nil, List.nil_append, List.cons_append, x_ix h5 hsd]
    refine ⟨mul_lit (by decide), mul_lit (by decide), by decide, ?_⟩
    generalize (sd * 48271 + c * 69621 + 12345) = m0
    have hm0 : -(2 ^ 64) < m0 % 2147483647 ∧ m0 % 2147483647 < 2 ^ 64 := by omega
    refine ⟨mul_lit hm0, mul_lit (by decide), by decide, ?_⟩
    generalize (m0 % 2147483647 * (m0 % 2147483647) + c * 40692 + 7) = m1
    have hm1 : -(2 ^ 64) < m1 % 2147483399 ∧ m1 % 2147483399 < 2 ^ 64 := by omega
    refine ⟨mul_lit hm1, by decide, small_div (by decide), hmost, ?_⟩
    exact k _ _ hp4 k4 (Int.emod_nonneg _ (by omega)) (fun _ => Int.emod_lt_of_pos _ hmost) (fun z => absurd z (by omega))

/-- a new pool of the script -/
def spPoolB (K : PySem.W.Frag) : Sp := fun vs H Q _ => ∃ (a : Addr) (ns : List Int), vs = [.ref a] ∧ SqL K H a (ns.map V.int) ∧ ns.length ≤ 63 ∧ ∀ (P : Addr) (H' : Hp), PoolB (fun _ => False) H' P → Same H H' → Q (.ref P) H'
theorem pure_poolB {K : PySem.W.Frag} (vs : List V) (H : Hp) (Q : VK) (E : XK) (h : spPoolB K vs H Q E) : t_pool K { nx := fun _ H' => Q .non H', rt := Q } (start ["script", "greats", "smalls", "cell"] vs) H := by
  obtain ⟨a, ns, rfl, hS, hn, k⟩ := h
  show t_pool K _ [some (.ref a), none, none, none] H
  unfold t_pool
  simp only [x_seq, x_if, x_test, x_B, x_op, x_un, x_varS, x_var0, x_c, x_I0, x_I, x_U, x_bl, x_ret, x_next, x_asg, x_name, x_set0, x_setS, x_drop, x_cb, x_cons, x_nil, x_int1, x_abs1, x_max2, x_gcd, x_gsub, x_sl, x_part, x_nopart, x_int, x_call, x_lst, x_tup, x_not, x_and, x_or, x_andV, x_orV, x_notV, x_ifE, x_eqI, x_neI, x_eqB, x_neB, x_tbm, decide_eq_true_eq, List.append_nil, List.nil_append, List.cons_append]
  refine ⟨by decide, fun g hg => ⟨by decide, fun s hs => ?_⟩⟩
  have ngs : s ≠ g := fun e => by
    subst e
    rw [upd_same] at hs
    cases hs
  have s0 : Same H (upd (upd H g (.lst [])) s (.lst [])) := Same.new' (Same.new hg) hs
  have hs0 : H s = none := (Same.new hg).free hs
  refine ⟨_, rfl, a, rfl, ⟨_, s0.seq hS⟩, for_list (K := K) (a := a) (xs := ns.map V.int) (fun i σ H' => ∃ (G S : List Int) (cl : Option V), σ = [some (.ref a), some (.ref g), some (.ref s), cl] ∧ H' g = some (.lst (G.map V.int)) ∧ H' s = some (.lst (S.map V.int)) ∧ G.length ≤ i ∧ S.length ≤ i ∧ Same H H')
    ⟨[], [], none, rfl, by rw [upd_ne ngs.symm, upd_same]; rfl, by rw [upd_same]; rfl, Nat.le_refl _, Nat.le_refl _, s0⟩ (fun i σ H' _ ⟨_, _, _, _, _, _, _, _, s1⟩ => s1.seq hS) ?_ ?_⟩
  · rintro i y σ H' hi ⟨G, S, cl, rfl, h1, h2, l1, l2, s1⟩
    have hil : i < ns.length := by
      have := (List.getElem?_eq_some_iff.mp hi).1
      rwa [List.length_map] at this
    obtain ⟨z, rfl⟩ : ∃ z, y = V.int z := by
      rw [List.getElem?_map] at hi
      cases e : ns[i]? with
      | none => rw [e] at hi; cases hi
      | some z => rw [e] at hi; exact ⟨z, (Option.some.inj hi).symm⟩
    have ha : ∀ (l : List Int) (b : Int), l.map V.int ++ [V.int b] = (l ++ [b]).map V.int := fun l b => by rw [List.map_append]; rfl
    simp only [x_seq, x_if, x_test, x_B, x_op, x_un, x_varS, x_var0, x_c, x_I0, x_I, x_U, x_bl, x_ret, x_next, x_asg, x_name, x_set0, x_setS, x_drop, x_cb, x_cons, x_nil, x_int1, x_abs1, x_max2, x_gcd, x_gsub, x_sl, x_part, x_nopart, x_int, x_call, x_lst, x_tup, x_not, x_and, x_or, x_andV, x_orV, x_notV, x_ifE, x_eqI, x_neI, x_eqB, x_neB, x_tbm, decide_eq_true_eq, List.append_nil, List.nil_append, List.cons_append]
    refine ⟨⟨by decide, by decide, by decide⟩, ?_⟩
    refine ite2 (fun _ => ?_) (fun _ => ?_)
    · refine ⟨ty_lst h1, ?_⟩
      simp only [x_append h1 (by rw [List.length_map]; exact Nat.lt_of_le_of_lt l1 (Nat.lt_of_lt_of_le (show i < 1000 by omega) (by decide)))]
      refine ⟨G ++ [if z < 0 then -z else z], S, _, rfl, by rw [upd_same, ha], by rw [upd_ne ngs]; exact h2, by rw [List.length_append]; simp; omega, by omega, fun b o e => ?_⟩
      rw [upd_ne (ne_of_none e hg)]
      exact s1 b o e
    · refine ⟨ty_lst h2, ?_⟩
      simp only [x_append h2 (by rw [List.length_map]; exact Nat.lt_of_le_of_lt l2 (Nat.lt_of_lt_of_le (show i < 1000 by omega) (by decide)))]
      refine ⟨G, S ++ [if z < 0 then -z else z], _, rfl, by rw [upd_ne ngs.symm]; exact h1, by rw [upd_same, ha], by omega, by rw [List.length_append]; simp; omega, fun b o e => ?_⟩
      rw [upd_ne (ne_of_none e hs0)]
      exact s1 b o e
  · rintro σ H' ⟨G, S, cl, rfl, h1, h2, l1, l2, s1⟩
    rw [List.length_map] at l1 l2
    -- the pool's own list
    have fin : ∀ (H2 : Hp) (S2 : List Int), H2 g = some (.lst (G.map V.int)) → H2 s = some (.lst (S2.map V.int)) → Same H H2 → S2 ≠ [] → S2.length ≤ 64 → ∀ p, H2 p = none → Q (.ref p) (upd H2 p (.lst [.ref g, .ref s, .int 0])) := by
      intro H2 S2 e1 e2 s2 ne l p hp
      refine k p _ ⟨g, s, G, S2, 0, ⟨upd_same, ?_, ?_, by omega, l, ne⟩, fun z => z.elim, fun z => z.elim⟩ (Same.new' s2 hp)
      · rw [upd_ne (ne_of_none e1 hp)]
        exact e1
      · rw [upd_ne (ne_of_none e2 hp)]
        exact e2
    simp only [x_seq, x_if, x_test, x_B, x_op, x_un, x_varS, x_var0, x_c, x_I0, x_I, x_U, x_bl, x_ret, x_next, x_asg, x_name, x_set0, x_setS, x_drop, x_cb, x_cons, x_nil, x_int1, x_abs1, x_max2, x_gcd, x_gsub, x_sl, x_part, x_nopart, x_int, x_call, x_lst, x_tup, x_not, x_and, x_or, x_andV, x_orV, x_notV, x_ifE, x_eqI, x_neI, x_eqB, x_neB, x_tbm, decide_eq_true_eq, List.append_nil, List.nil_append, List.cons_append, x_lenA h2, x_lenA h1, List.length_map]
    refine ite2 (fun hz => ?_) (fun hz => ?_)
    · refine ⟨ty_lst h2, ?_⟩
      simp only [x_append h2 (by rw [List.length_map]; exact Nat.lt_of_le_of_lt l2 (Nat.lt_of_lt_of_le (show ns.length < 1000 by omega) (by decide)))]
      have hS0 : S = [] := by
        cases S with
        | nil => rfl
        | cons a r => simp only [List.length_cons] at hz; omega
      subst hS0
      refine ⟨(by show 3 ≤ sizeLine; decide), fin _ [(G.length : Int)] (by rw [upd_ne ngs.symm]; exact h1) (by rw [upd_same]; rfl) (fun b o e => ?_) (by simp) (by simp)⟩
      rw [upd_ne (ne_of_none e hs0)]
      exact s1 b o e
    · exact ⟨(by show 3 ≤ sizeLine; decide), fin _ S h1 h2 s1 (fun e => hz (by subst e; rfl)) (by omega)⟩

theorem PoolB.same {B : Addr → Prop} {H H' : Hp} {P : Addr} (h : PoolB B H P) (k : Same H H') : PoolB B H' P := by
  obtain ⟨g, s, G, S, c, ⟨h1, h2, h3, h4, h5, h6⟩, h7⟩ := h
  exact ⟨g, s, G, S, c, ⟨k _ _ h1, k _ _ h2, k _ _ h3, h4, h5, h6⟩, h7⟩
/-- one more list that is none of the pool's -/
theorem PoolB.more {B : Addr → Prop} {H : Hp} {P F : Addr} {o : HO} (h : PoolB B H P) (n : H F = none) : PoolB (fun b => B b ∨ b = F) (upd H F o) P := by
  obtain ⟨g, s, G, S, c, ⟨h1, h2, h3, h4, h5, h6⟩, bg, bs⟩ := h
  have k : Same H (upd H F o) := Same.new n
  refine ⟨g, s, G, S, c, ⟨k _ _ h1, k _ _ h2, k _ _ h3, h4, h5, h6⟩, ?_, ?_⟩
  · rintro (z | rfl)
    · exact bg z
    · rw [h2] at n
      cases n
  · rintro (z | rfl)
    · exact bs z
    · rw [h3] at n
      cases n
theorem PoolB.less {B B' : Addr → Prop} {H : Hp} {P : Addr} (h : PoolB B H P) (l : ∀ b, B' b → B b) : PoolB B' H P := by
  obtain ⟨g, s, G, S, c, h1, bg, bs⟩ := h
  exact ⟨g, s, G, S, c, h1, fun z => bg (l _ z), fun z => bs (l _ z)⟩
/-- a list of B is written -/
theorem PoolB.put {B : Addr → Prop} {H : Hp} {P F : Addr} {o : HO} (h : PoolB B H P) (b : B F) (n : F ≠ P) : PoolB B (upd H F o) P := by
  obtain ⟨g, s, G, S, c, ⟨h1, h2, h3, h4, h5, h6⟩, bg, bs⟩ := h
  refine ⟨g, s, G, S, c, ⟨?_, ?_, ?_, h4, h5, h6⟩, bg, bs⟩
  · rw [upd_ne (Ne.symm n)]; exact h1
  · have q : g ≠ F := fun e => bg (by rw [e]; exact b)
    rw [upd_ne q]
    exact h2
  · have q : s ≠ F := fun e => bs (by rw [e]; exact b)
    rw [upd_ne q]
    exact h3
theorem PoolB.there {B : Addr → Prop} {H : Hp} {P : Addr} (h : PoolB B H P) : ∃ xs, H P = some (.lst xs) := by
  obtain ⟨g, s, G, S, c, h1, _⟩ := h
  exact ⟨_, h1.p⟩
theorem tup_off {B : Addr → Prop} {H : Hp} {P o : Addr} {ys : List V} (h : PoolB B H P) (t : H o = some (.tup ys)) : o ≠ P := by
  obtain ⟨xs, e⟩ := h.there
  exact lst_tup e t
end SpX

set_option Elab.async false
set_option linter.all false
set_option maxRecDepth 100000
set_option maxHeartbeats 2000000
/-! Built-ins over tuples, and of math. -/
namespace SpX
open PySem PySem.Spec PyProof.Rows L2
section
variable {prog : Program} {w : World} {A : Around} {E : Value → Shared → Prop} {s : Shared}
theorem sum_tuple {t : Addr} {its : List Value} {ns : List Int} {Q : Value → Shared → Prop} (calm : A.handled = none) (ht : s.heap.IsTuple t its.toArray) (hi : IntsAre its ns)
    (h : ∀ h' tk t', (∀ b o, s.heap.get? b = some o → h'.get? b = some o) → Q (.int ns.sum t') { s with heap := h', toks := tk }) : wpAny (model prog w) A (call (.builtin "sum") [.ref t]) Q E s := by
  obtain ⟨xs, e⟩ := hi.allInts.items
  have hn : numsOf (intItems xs).toList = ns := by
    rw [← e]
    exact hi.numsOf
  rw [nums_intItems] at hn
  rw [e] at ht
  have lt : t < s.heap.objs.size := by
    obtain ⟨_, q, _⟩ := ht
    exact Heap.lt_size q
  refine call_sum_walkG (wpAny_pyIter_tuple ht ?_)
  refine ⟨_, [s.heap.objs.size, t], [s.heap.objs.size], _, _, _, numAt xs, rfl, Walks.tuple (A := A.in1) calm _ t (Nat.ne_of_lt lt) (intItems xs), ⟨⟨_, Heap.get?_push_size _ rfl, rfl, rfl⟩, ht.at fun o q => Heap.get?_push_of_some _ q⟩, fun b hb => ?_, fun _ _ => intItems_at, fun h' tk t' hk => ?_⟩
  · show b < (s.heap.push _).objs.size
    rw [Heap.size_push]
    rcases List.mem_cons.mp hb with z | hb
    · rw [z]
      exact Nat.lt_succ_self _
    · rw [List.mem_singleton.mp hb]
      exact Nat.lt_succ_of_lt lt
  · have old : ∀ b o, s.heap.get? b = some o → h'.get? b = some o := fun b o q => by
      refine hk b o (fun hm => ?_) (Heap.get?_push_of_some _ q)
      have z := Heap.lt_size q
      rw [List.mem_singleton.mp hm] at z
      exact Nat.lt_irrefl _ z
    have fin := h h' tk t' old
    have es : (intItems xs).size = xs.size := by simp [intItems]
    rw [es, preSum_eq, List.take_of_length_le (by simp), hn]
    exact fin
end
/-- the numbers of a tracked list or tuple -/
def rSumA : List V → Hp → VK → Prop := fun vs H Q => ∃ (a : Addr) (ns : List Int), vs = [.ref a] ∧ (H a = some (.lst (ns.map V.int)) ∨ H a = some (.tup (ns.map V.int))) ∧ Q (.int ns.sum) H
theorem call_sumA {X : Cx} (hc : X.calm = true) : CallR X (.builtin "sum") rSumA := by
  intro pins s σ H vs us Q I r h
  obtain ⟨a, ns, rfl, h1 | h1, q⟩ := h
  · exact cr_sum hc pins s σ H _ us Q I r ⟨a, ns, rfl, .inl (.inl h1), q⟩
  · obtain ⟨its, rv, hl, _⟩ := I.tuple (SqT.at (K := X.K) h1)
    rw [Vals.ref1 r]
    exact sum_tuple (I.ok.hd hc) hl rv.ints fun h' tk t' hk => ⟨.int _, H, I.kept hk, ⟨_, rfl⟩, q⟩
/-- the factorial, by products -/
def facI (n : Int) : Int := ((Builtin.Math.factorialNat n.toNat : Nat) : Int)
def rFac : List V → Hp → VK → Prop := fun vs H Q => ∃ n : Int, vs = [.int n] ∧ 0 ≤ n ∧ n ≤ 20000 ∧ Q (.int (facI n)) H
theorem cr_fac {X : Cx} : CallR X (.builtin "math.factorial") rFac := by
  intro pins s σ H vs us Q I r h
  obtain ⟨n, rfl, h0, h1, q⟩ := h
  obtain ⟨u, rfl, rx⟩ := vals1 r
  obtain ⟨t, rfl⟩ := rx
  exact PySem.W.mc_factorial h0 h1 fun _ => ⟨.int _, H, I.tok _, ⟨_, rfl⟩, q⟩
section
variable {σ : L2.St} {H : Hp} {Q : VK} {p : Addr} {ns : List Int} {n : Int}
theorem x_sumT (h : H p = some (.tup (ns.map V.int))) : rSumA [.ref p] H Q = Q (.int ns.sum) H := propext (Iff.intro
  (fun ⟨_, ms, e1, h1, q⟩ => by
    cases e1
    rw [h] at h1
    rcases h1 with h1 | h1
    · cases h1
    · have e : ns.map V.int = ms.map V.int := by
        injection h1 with h1
        injection h1
      have e2 : ns = ms := List.map_inj_right (fun _ _ z => by injection z) |>.mp e
      rw [e2]
      exact q)
  (fun q => ⟨_, _, rfl, .inr h, q⟩))
theorem x_sumL (h : H p = some (.lst (ns.map V.int))) : rSumA [.ref p] H Q = Q (.int ns.sum) H := propext (Iff.intro
  (fun ⟨_, ms, e1, h1, q⟩ => by
    cases e1
    rw [h] at h1
    rcases h1 with h1 | h1
    · have e : ns.map V.int = ms.map V.int := by
        injection h1 with h1
        injection h1
      have e2 : ns = ms := List.map_inj_right (fun _ _ z => by injection z) |>.mp e
      rw [e2]
      exact q
    · cases h1)
  (fun q => ⟨_, _, rfl, .inl h, q⟩))
theorem x_fac (h0 : 0 ≤ n) (h1 : n ≤ 20000) : rFac [.int n] H Q = Q (.int (facI n)) H := propext (Iff.intro
  (fun ⟨_, e1, _, _, q⟩ => by
    cases e1
    exact q)
  (fun q => ⟨_, rfl, h0, h1, q⟩))
end
/-! ### tuples and truths of tracked things -/
theorem int_map_inj {ns ms : List Int} (e : ns.map V.int = ms.map V.int) : ns = ms := List.map_inj_right (fun _ _ z => by injection z) |>.mp e
/-- tuple(list), tuple(tuple) -/
def rTupA : List V → Hp → VK → Prop := fun vs H Q => ∃ p xs, vs = [.ref p] ∧ ((H p = some (.lst xs) ∧ ∀ l, H l = none → Q (.ref l) (upd H l (.tup xs))) ∨ (H p = some (.tup xs) ∧ Q (.ref p) H))
/-- all(list of truths) -/
def rAllA : List V → Hp → VK → Prop := fun vs H Q => ∃ (a : Addr) (bs : List Bool), vs = [.ref a] ∧ H a = some (.lst (bs.map V.bl)) ∧ Q (.bl (bs.all id)) H
/-- tuple < tuple, of ints -/
def rLtA : R2 := fun x y H Q => ∃ (a b : Addr) (ns ms : List Int), x = .ref a ∧ y = .ref b ∧ H a = some (.tup (ns.map V.int)) ∧ H b = some (.tup (ms.map V.int)) ∧ Q (.bl (HT.lexLt ns ms)) H
/-- list(list or tuple) -/
inductive IsB (H : Hp) : List V → Bool → Prop where
  | ll {p : Addr} {xs : List V} (h : H p = some (.lst xs)) : IsB H [.ref p, .ty "list"] true
  | tt {p : Addr} {xs : List V} (h : H p = some (.tup xs)) : IsB H [.ref p, .ty "tuple"] true
  | bb (b : Bool) : IsB H [.bl b, .ty "bool"] true
theorem IsB.yes {H : Hp} {xs : List V} {b : Bool} (h : IsB H xs b) : b = true := by cases h <;> rfl
def rIsB : List V → Hp → VK → Prop := fun xs H Q => ∃ b, IsB H xs b ∧ Q (.bl b) H
section
variable {X : Cx}
theorem call_tupA : CallR X (.type "tuple") rTupA := by
  intro pins s σ H xs us Q I r h
  obtain ⟨p, ys, rfl, ⟨h1, q⟩ | ⟨h1, q⟩⟩ := h
  · exact call_tuple_of pins s σ H _ us Q I r ⟨p, ys, rfl, .inl ⟨.inl (.inl h1), q⟩⟩
  · exact call_tuple_of pins s σ H _ us Q I r ⟨p, ys, rfl, .inr ⟨.inl (.inl h1), q⟩⟩
theorem cr_allA (hc : X.calm = true) : CallR X (.builtin "all") rAllA := by
  intro pins s σ H xs us Q I r h
  obtain ⟨a, bs, rfl, h1, q⟩ := h
  exact cr_all hc pins s σ H _ us Q I r ⟨a, bs, rfl, .inl (.inl h1), q⟩
theorem op_ltA (hu : X.A.units < cLine) : OpR X (compareOp .Lt) rLtA := by
  intro pins s σ H x y v u Q I rx ry h
  obtain ⟨a, b, ns, ms, rfl, rfl, h1, h2, q⟩ := h
  exact op_ltT hu pins s σ H _ _ v u Q I rx ry ⟨a, b, ns, ms, rfl, rfl, .inl (.inl h1), .inl (.inl h2), q⟩
theorem call_isB : CallR X (.builtin "isinstance") rIsB := by
  intro pins s σ H xs us Q I r h
  obtain ⟨b, h, q⟩ := h
  cases h with
  | ll e => exact call_isi pins s σ H _ us Q I r ⟨_, _, _, _, _, rfl, .ty _, .base (.lst e), kit_ty (by decide +kernel), q⟩
  | tt e => exact call_isi pins s σ H _ us Q I r ⟨_, _, _, _, _, rfl, .ty _, .base (.tup e), kit_ty (by decide +kernel), q⟩
  | bb c => exact call_isi pins s σ H _ us Q I r ⟨_, _, _, _, _, rfl, .ty _, .base (.bl c), kit_ty (by decide +kernel), q⟩
end
section
variable {σ : L2.St} {H : Hp} {Q : VK} {p q : Addr} {xs : List V} {ns ms : List Int} {bs : List Bool}
theorem x_tupL (h : H p = some (.lst xs)) : rTupA [.ref p] H Q = ∀ l, H l = none → Q (.ref l) (upd H l (.tup xs)) := propext (Iff.intro
  (fun ⟨_, _, e1, z⟩ => by
    cases e1
    rw [h] at z
    rcases z with ⟨z, k⟩ | ⟨z, k⟩
    · cases z
      exact k
    · cases z)
  (fun k => ⟨_, _, rfl, .inl ⟨h, k⟩⟩))
theorem x_tupT (h : H p = some (.tup xs)) : rTupA [.ref p] H Q = Q (.ref p) H := propext (Iff.intro
  (fun ⟨_, _, e1, z⟩ => by
    cases e1
    rw [h] at z
    rcases z with ⟨z, k⟩ | ⟨z, k⟩
    · cases z
    · exact k)
  (fun k => ⟨_, _, rfl, .inr ⟨h, k⟩⟩))
theorem x_ltA (h : H p = some (.tup (ns.map V.int))) (h' : H q = some (.tup (ms.map V.int))) : rLtA (.ref p) (.ref q) H Q = Q (.bl (HT.lexLt ns ms)) H := propext (Iff.intro
  (fun ⟨_, _, _, _, e1, e2, h1, h2, k⟩ => by
    cases e1; cases e2
    rw [h] at h1
    rw [h'] at h2
    injection h1 with h1
    injection h1 with h1
    injection h2 with h2
    injection h2 with h2
    rw [int_map_inj h1, int_map_inj h2]
    exact k)
  (fun k => ⟨_, _, _, _, rfl, rfl, h, h', k⟩))
theorem bl_map_inj {as bs : List Bool} (e : as.map V.bl = bs.map V.bl) : as = bs := List.map_inj_right (fun _ _ z => by injection z) |>.mp e
theorem x_allA (h : H p = some (.lst (bs.map V.bl))) : rAllA [.ref p] H Q = Q (.bl (bs.all id)) H := propext (Iff.intro
  (fun ⟨_, _, e1, h1, k⟩ => by
    cases e1
    rw [h] at h1
    injection h1 with h1
    injection h1 with h1
    rw [bl_map_inj h1]
    exact k)
  (fun k => ⟨_, _, rfl, h, k⟩))
theorem x_isLL (h : H p = some (.lst xs)) : rIsB [.ref p, .ty "list"] H Q = Q (.bl true) H := propext (Iff.intro (fun ⟨_, z, k⟩ => by rw [z.yes] at k; exact k) fun k => ⟨_, .ll h, k⟩)
theorem x_isTT (h : H p = some (.tup xs)) : rIsB [.ref p, .ty "tuple"] H Q = Q (.bl true) H := propext (Iff.intro (fun ⟨_, z, k⟩ => by rw [z.yes] at k; exact k) fun k => ⟨_, .tt h, k⟩)
theorem x_isBB {b : Bool} : rIsB [.bl b, .ty "bool"] H Q = Q (.bl true) H := propext (Iff.intro (fun ⟨_, z, k⟩ => by rw [z.yes] at k; exact k) fun k => ⟨_, .bb b, k⟩)
theorem x_lenT (h : H p = some (.tup xs)) : rLenA [.ref p] H Q = Q (.int xs.length) H := propext (Iff.intro
  (fun ⟨_, _, e1, h1, k⟩ => by
    cases e1
    rw [h] at h1
    rcases h1 with h1 | h1
    · cases h1
    · cases h1
      exact k)
  (fun k => ⟨_, _, rfl, .inr h, k⟩))
theorem x_listT (h : H p = some (.tup xs)) : rListA [.ref p] H Q = ∀ l, H l = none → Q (.ref l) (upd H l (.lst xs)) := propext (Iff.intro
  (fun ⟨_, _, e1, h1, k⟩ => by
    cases e1
    rw [h] at h1
    rcases h1 with h1 | h1
    · cases h1
    · cases h1
      exact k)
  (fun k => ⟨_, _, rfl, .inr h, k⟩))
theorem x_isN {ta : TE} : tIsN ta σ H Q = ta σ H (fun x H1 => Q (.bl (decide (x = .non))) H1) := rfl
theorem x_notN {ta : TE} : tNotN ta σ H Q = ta σ H (fun x H1 => Q (.bl (!decide (x = .non))) H1) := rfl
end
end SpX

set_option Elab.async false
set_option linter.all false
set_option maxRecDepth 100000
set_option maxHeartbeats 2000000
namespace SpX
open PySem PySem.Spec L2 StX RZ
theorem x_never {D : Ends} {σ : L2.St} {H : Hp} : tNever D σ H = False := rfl
def tRaise0 (Z : Addr) (E : XK) : TS := fun _ _ H => E (.ref Z) none H
/-- exponents -/
abbrev ExpAt (H : Hp) (p : Addr) (ns : List Int) : Prop := H p = some (.tup (ns.map V.int))
/-! ### comprehensions whose element changes nothing -/
theorem wipe1 {σ : L2.St} {i : Nat} {x : V} : wipe ((wipe σ [i]).set i (some x)) [i] = wipe σ [i] := by
  show ((σ.set i none).set i (some x)).set i none = σ.set i none
  rw [List.set_set, List.set_set]
theorem lc_pureT {K : PySem.W.Frag} {tv te : TE} {σ : L2.St} {H : Hp} {Q : VK} {p : Addr} {xs : List V} {i : Nat} (f : Nat → V) (hv : ∀ Q : VK, tv σ H Q = Q (.ref p) H) (h : H p = some (.tup xs)) (hl : xs.length < 1000)
    (he : ∀ j x (H' : Hp) (QQ : VK), xs[j]? = some x → Same H H' → QQ (f j) H' → te ((wipe σ [i]).set i (some x)) H' QQ) (k : ∀ D H', Same H H' → H' D = some (.lst ((List.range xs.length).map f)) → Q (.ref D) H') : tLc (iTup K tv) (gName i) tYes te [i] σ H Q := by
  show tv σ H _
  rw [hv]
  refine ⟨p, rfl, ⟨_, SqT.at h⟩, fun D hD => lc_tup (K := K) (a := p) (xs := xs) (fun j H' => Same H H' ∧ H' D = some (.lst ((List.range j).map f))) ⟨Same.new hD, upd_same⟩ (fun j H' _ s => SqT.at (s.1 _ _ h)) (fun j x H' hj s => ?_) fun H' s => k D H' s.1 s.2⟩
  refine ⟨wipe1, ?_⟩
  unfold tYes
  dsimp only
  rw [if_pos rfl]
  refine he j x H' _ hj s.1 ⟨_, s.2, ?_, ?_, ?_⟩
  · have := (List.getElem?_eq_some_iff.mp hj).1
    rw [List.length_map, List.length_range]
    exact Nat.lt_of_lt_of_le (show j < 1000 by omega) (by decide)
  · intro b o e
    rw [upd_ne (ne_of_none e hD)]
    exact s.1 _ _ e
  · rw [upd_same, List.range_succ, List.map_append]
    rfl
theorem range_map {α β : Type} {l : List α} {f : Nat → β} {g : α → β} (h : ∀ j x, l[j]? = some x → f j = g x) : (List.range l.length).map f = l.map g := by
  refine List.ext_getElem? fun j => ?_
  rw [List.getElem?_map, List.getElem?_map]
  by_cases hj : j < l.length
  · rw [List.getElem?_range hj, List.getElem?_eq_getElem hj]
    exact congrArg some (h j _ (List.getElem?_eq_getElem hj))
  · rw [List.getElem?_eq_none (by rw [List.length_range]; omega), List.getElem?_eq_none (by omega)]
    rfl
theorem int_at {ns : List Int} {j : Nat} {x : V} (h : (ns.map V.int)[j]? = some x) : ∃ z, ns[j]? = some z ∧ x = .int z := by
  rw [List.getElem?_map] at h
  cases e : ns[j]? with
  | none => rw [e] at h; cases h
  | some z => rw [e] at h; exact ⟨z, rfl, (Option.some.inj h).symm⟩
/-! ### checks -/
def spChk (Z : Addr) : Sp := fun vs H Q E => ∃ d : Int, vs = [.int d] ∧ (¬(1 ≤ d ∧ d ≤ 3) → E (.ref Z) none H) ∧ (1 ≤ d ∧ d ≤ 3 → Q .non H)
def spChke (Z : Addr) : Sp := fun vs H Q E => ∃ (p : Addr) (ns : List Int) (d : Int), vs = [.ref p, .int d] ∧ ExpAt H p ns ∧ ((ns.length : Int) ≠ d → E (.ref Z) none H) ∧ ((ns.length : Int) = d → Q .non H)
/-- in the order's place -/
def plc (ns : List Int) : List Int := ns.sum :: ns.map (fun x => -x)
def spPlace : Sp := fun vs H Q _ => ∃ (p : Addr) (ns : List Int), vs = [.ref p] ∧ ExpAt H p ns ∧ ns.length < 100 ∧ ∀ q H', ExpAt H' q (plc ns) → Same H H' → Q (.ref q) H'
/-- two monomials of one dimension -/
def Pair (ns ms : List Int) : Prop := 1 ≤ ns.length ∧ ns.length ≤ 3 ∧ ms.length = ns.length
def spPair (Z : Addr) : Sp := fun vs H Q E => ∃ (p q : Addr) (ns ms : List Int), vs = [.ref p, .ref q] ∧ ExpAt H p ns ∧ ExpAt H q ms ∧ (¬ Pair ns ms → E (.ref Z) none H) ∧ (Pair ns ms → Q .non H)
def spBefore (Z : Addr) : Sp := fun vs H Q E => ∃ (p q : Addr) (ns ms : List Int), vs = [.ref p, .ref q] ∧ ExpAt H p ns ∧ ExpAt H q ms ∧ (¬ Pair ns ms → E (.ref Z) none H) ∧ (Pair ns ms → ∀ H', Same H H' → Q (.bl (HT.lexLt (plc ns) (plc ms))) H')
/-- each at most the other's -/
def within : List Int → List Int → Bool
  | x :: xs, y :: ys => decide (x ≤ y) && within xs ys
  | _, _ => true
def spDivides (Z : Addr) : Sp := fun vs H Q E => ∃ (p q : Addr) (ns ms : List Int), vs = [.ref p, .ref q] ∧ ExpAt H p ns ∧ ExpAt H q ms ∧ (¬ Pair ns ms → E (.ref Z) none H) ∧ (Pair ns ms → ∀ H', Same H H' → Q (.bl (within ns ms)) H')
def facs (ns : List Int) : Int := ns.foldl (fun t x => t * facI x) 1
def spMfac (Z : Addr) : Sp := fun vs H Q E => ∃ (p : Addr) (ns : List Int), vs = [.ref p] ∧ ExpAt H p ns ∧ (¬ (1 ≤ ns.length ∧ ns.length ≤ 3) → E (.ref Z) none H) ∧ (1 ≤ ns.length ∧ ns.length ≤ 3 → (∀ x ∈ ns, 0 ≤ x ∧ x ≤ 20) ∧ Q (.int (facs ns)) H)
def t_chk (K : PySem.W.Frag) (Z : Addr) (E : XK) : TS :=
    (tIfS (tOr (tTest (tOp (rI0 fun i j => .bl (decide (i < j))) (tVar 0) (tC (.int 1)))) (tTest (tOp (rI0 fun i j => .bl (decide (j < i))) (tVar 0) (tC (.int 3))))) (tRaise0 Z E) tNext)
def t_chke (K : PySem.W.Frag) (Z : Addr) (E : XK) : TS :=
    (tIfS (tTest (tOp rNe (tCB rLenA (tCons (tVar 0) tNil)) (tVar 1))) (tRaise0 Z E) tNext)
def t_place (K : PySem.W.Frag) (Z : Addr) (E : XK) : TS :=
    (tRet (tTup (tCons (tCB rSumA (tCons (tVar 0) tNil)) (tStar K (tLc (iTup K (tVar 0)) (gName 1) tYes (tUn (rU fun i => .int (-i)) (tVar 1)) [1]) tNil))))
def t_pair (K : PySem.W.Frag) (Z : Addr) (E : XK) : TS :=
    (tSeq (tDrop (tCall (spChk Z) [] E (tCons (tCB rLenA (tCons (tVar 0) tNil)) tNil)))
    (tDrop (tCall (spChke Z) [] E (tCons (tVar 1) (tCons (tCB rLenA (tCons (tVar 0) tNil)) tNil)))))
def t_before (K : PySem.W.Frag) (Z : Addr) (E : XK) : TS :=
    (tSeq (tDrop (tCall (spPair Z) [] E (tCons (tVar 0) (tCons (tVar 1) tNil))))
    (tRet (tOp rLtA (tCall spPlace [] E0 (tCons (tVar 0) tNil)) (tCall spPlace [] E0 (tCons (tVar 1) tNil)))))
def t_divides (K : PySem.W.Frag) (Z : Addr) (E : XK) : TS :=
    (tSeq (tDrop (tCall (spPair Z) [] E (tCons (tVar 0) (tCons (tVar 1) tNil))))
    (tRet (tCB rAllA (tCons (tLc (iZipA K (tCons (tVar 0) (tCons (tVar 1) tNil))) (gTup K 2 (gCons (gName 2) (gCons (gName 3) gNil))) tYes (tOp (rI0 fun i j => .bl (decide (i ≤ j))) (tVar 2) (tVar 3)) [2, 3]) tNil))))
def t_mfac (K : PySem.W.Frag) (Z : Addr) (E : XK) : TS :=
    (tSeq (tDrop (tCall (spChk Z) [] E (tCons (tCB rLenA (tCons (tVar 0) tNil)) tNil)))
    (tSeq (tAsg (tC (.int 1)) (gName 1))
    (tSeq (tFor (iTup K (tVar 0)) (gName 2) ((tAsg (tOp (rI IntMulOk fun i j => .int (i * j)) (tVar 1) (tCB rFac (tCons (tVar 2) tNil))) (gName 1))))
    (tRet (tVar 1)))))
section
variable {K : PySem.W.Frag} {Z : Addr}
theorem pure_chk (vs : List V) (H : Hp) (Q : VK) (E : XK) (h : spChk Z vs H Q E) : t_chk K Z E { nx := fun _ H' => Q .non H', rt := Q } (start ["dimension"] vs) H := by
  obtain ⟨d, rfl, ke, k⟩ := h
  show t_chk K Z E _ [some (.int d)] H
  unfold t_chk
  simp only [x_seq, x_if, x_test, x_B, x_op, x_un, x_varS, x_var0, x_c, x_I0, x_I, x_U, x_bl, x_ret, x_next, x_asg, x_name, x_set0, x_setS, x_drop, x_cb, x_cons, x_nil, x_int1, x_abs1, x_max2, x_gcd, x_gsub, x_sl, x_part, x_nopart, x_int, x_call, x_lst, x_tup, x_not, x_and, x_or, x_andV, x_orV, x_notV, x_ifE, x_eqI, x_neI, x_eqB, x_neB, x_tbm, x_never, x_isN, x_notN, decide_eq_true_eq, Bool.false_eq_true, if_false, if_true, List.append_nil, List.nil_append, List.cons_append]
  refine ite2 (fun h => ke (by omega)) fun _ => ite2 (fun h => ke (by omega)) fun _ => k (by omega)
theorem pure_chke (vs : List V) (H : Hp) (Q : VK) (E : XK) (h : spChke Z vs H Q E) : t_chke K Z E { nx := fun _ H' => Q .non H', rt := Q } (start ["entries", "dimension"] vs) H := by
  obtain ⟨p, ns, d, rfl, hp, ke, k⟩ := h
  show t_chke K Z E _ [some (.ref p), some (.int d)] H
  unfold t_chke
  simp only [x_seq, x_if, x_test, x_B, x_op, x_un, x_varS, x_var0, x_c, x_I0, x_I, x_U, x_bl, x_ret, x_next, x_asg, x_name, x_set0, x_setS, x_drop, x_cb, x_cons, x_nil, x_int1, x_abs1, x_max2, x_gcd, x_gsub, x_sl, x_part, x_nopart, x_int, x_call, x_lst, x_tup, x_not, x_and, x_or, x_andV, x_orV, x_notV, x_ifE, x_eqI, x_neI, x_eqB, x_neB, x_tbm, x_never, x_isN, x_notN, decide_eq_true_eq, Bool.false_eq_true, if_false, if_true, List.append_nil, List.nil_append, List.cons_append, x_lenT hp, List.length_map]
  refine ite2 (fun h => ke (by simpa using h)) fun h => k (by simpa using h)
theorem pure_place (vs : List V) (H : Hp) (Q : VK) (E : XK) (h : spPlace vs H Q E) : t_place K Z E { nx := fun _ H' => Q .non H', rt := Q } (start ["exponents", "exponent"] vs) H := by
  obtain ⟨p, ns, rfl, hp, hl, k⟩ := h
  show t_place K Z E _ [some (.ref p), none] H
  unfold t_place
  simp only [x_seq, x_if, x_test, x_B, x_op, x_un, x_varS, x_var0, x_c, x_I0, x_I, x_U, x_bl, x_ret, x_next, x_asg, x_name, x_set0, x_setS, x_drop, x_cb, x_cons, x_nil, x_int1, x_abs1, x_max2, x_gcd, x_gsub, x_sl, x_part, x_nopart, x_int, x_call, x_lst, x_tup, x_not, x_and, x_or, x_andV, x_orV, x_notV, x_ifE, x_eqI, x_neI, x_eqB, x_neB, x_tbm, x_never, x_isN, x_notN, decide_eq_true_eq, Bool.false_eq_true, if_false, if_true, List.append_nil, List.nil_append, List.cons_append, x_sumT hp]
  refine lc_pureT (fun j => V.int (-(ns.getD j 0))) (fun Q => by simp only [x_seq, x_if, x_test, x_B, x_op, x_un, x_varS, x_var0, x_c, x_I0, x_I, x_U, x_bl, x_ret, x_next, x_asg, x_name, x_set0, x_setS, x_drop, x_cb, x_cons, x_nil, x_int1, x_abs1, x_max2, x_gcd, x_gsub, x_sl, x_part, x_nopart, x_int, x_call, x_lst, x_tup, x_not, x_and, x_or, x_andV, x_orV, x_notV, x_ifE, x_eqI, x_neI, x_eqB, x_neB, x_tbm, x_never, x_isN, x_notN, decide_eq_true_eq, Bool.false_eq_true, if_false, if_true, List.append_nil, List.nil_append, List.cons_append]) hp (by rw [List.length_map]; omega) (fun j x H' QQ hj s kk => ?_) fun D H' s hD => ?_
  · obtain ⟨z, hz, rfl⟩ := int_at hj
    show tUn _ (tVar 1) [some (.ref p), some (.int z)] H' QQ
    simp only [x_seq, x_if, x_test, x_B, x_op, x_un, x_varS, x_var0, x_c, x_I0, x_I, x_U, x_bl, x_ret, x_next, x_asg, x_name, x_set0, x_setS, x_drop, x_cb, x_cons, x_nil, x_int1, x_abs1, x_max2, x_gcd, x_gsub, x_sl, x_part, x_nopart, x_int, x_call, x_lst, x_tup, x_not, x_and, x_or, x_andV, x_orV, x_notV, x_ifE, x_eqI, x_neI, x_eqB, x_neB, x_tbm, x_never, x_isN, x_notN, decide_eq_true_eq, Bool.false_eq_true, if_false, if_true, List.append_nil, List.nil_append, List.cons_append]
    have e : ns.getD j 0 = z := by rw [List.getD_eq_getElem?_getD, hz]; rfl
    rw [e] at kk
    exact kk
  · have e : (List.range (ns.map V.int).length).map (fun j => V.int (-(ns.getD j 0))) = (ns.map (fun x => -x)).map V.int := by
      rw [List.length_map, List.map_map]
      refine range_map fun j x hx => ?_
      rw [List.getD_eq_getElem?_getD, hx]
      rfl
    rw [e] at hD
    refine ⟨D, _, rfl, .inr (SqL.at hD), ?_, fun q hq => ?_⟩
    · show (V.int ns.sum :: ((ns.map (fun x => -x)).map V.int ++ [])).length ≤ sizeLine
      rw [List.append_nil, List.length_cons, List.length_map, List.length_map]
      exact sl5 (by omega)
    · refine k q _ ?_ (Same.new' s hq)
      rw [ExpAt, upd_same, List.append_nil]
      rfl
theorem pure_pair (vs : List V) (H : Hp) (Q : VK) (E : XK) (h : spPair Z vs H Q E) : t_pair K Z E { nx := fun _ H' => Q .non H', rt := Q } (start ["first", "second"] vs) H := by
  obtain ⟨p, q, ns, ms, rfl, hp, hq, ke, k⟩ := h
  show t_pair K Z E _ [some (.ref p), some (.ref q)] H
  unfold t_pair
  simp only [x_seq, x_if, x_test, x_B, x_op, x_un, x_varS, x_var0, x_c, x_I0, x_I, x_U, x_bl, x_ret, x_next, x_asg, x_name, x_set0, x_setS, x_drop, x_cb, x_cons, x_nil, x_int1, x_abs1, x_max2, x_gcd, x_gsub, x_sl, x_part, x_nopart, x_int, x_call, x_lst, x_tup, x_not, x_and, x_or, x_andV, x_orV, x_notV, x_ifE, x_eqI, x_neI, x_eqB, x_neB, x_tbm, x_never, x_isN, x_notN, decide_eq_true_eq, Bool.false_eq_true, if_false, if_true, List.append_nil, List.nil_append, List.cons_append, x_lenT hp, List.length_map]
  refine ⟨_, rfl, fun h => ke fun z => h (by unfold Pair at z; omega), fun h => ?_⟩
  simp only [x_seq, x_if, x_test, x_B, x_op, x_un, x_varS, x_var0, x_c, x_I0, x_I, x_U, x_bl, x_ret, x_next, x_asg, x_name, x_set0, x_setS, x_drop, x_cb, x_cons, x_nil, x_int1, x_abs1, x_max2, x_gcd, x_gsub, x_sl, x_part, x_nopart, x_int, x_call, x_lst, x_tup, x_not, x_and, x_or, x_andV, x_orV, x_notV, x_ifE, x_eqI, x_neI, x_eqB, x_neB, x_tbm, x_never, x_isN, x_notN, decide_eq_true_eq, Bool.false_eq_true, if_false, if_true, List.append_nil, List.nil_append, List.cons_append, x_lenT hp, List.length_map]
  exact ⟨q, ms, _, rfl, hq, fun z => ke fun y => z (by unfold Pair at y; omega), fun z => k (by unfold Pair; omega)⟩
theorem pure_before (vs : List V) (H : Hp) (Q : VK) (E : XK) (h : spBefore Z vs H Q E) : t_before K Z E { nx := fun _ H' => Q .non H', rt := Q } (start ["first", "second"] vs) H := by
  obtain ⟨p, q, ns, ms, rfl, hp, hq, ke, k⟩ := h
  show t_before K Z E _ [some (.ref p), some (.ref q)] H
  unfold t_before
  simp only [x_seq, x_if, x_test, x_B, x_op, x_un, x_varS, x_var0, x_c, x_I0, x_I, x_U, x_bl, x_ret, x_next, x_asg, x_name, x_set0, x_setS, x_drop, x_cb, x_cons, x_nil, x_int1, x_abs1, x_max2, x_gcd, x_gsub, x_sl, x_part, x_nopart, x_int, x_call, x_lst, x_tup, x_not, x_and, x_or, x_andV, x_orV, x_notV, x_ifE, x_eqI, x_neI, x_eqB, x_neB, x_tbm, x_never, x_isN, x_notN, decide_eq_true_eq, Bool.false_eq_true, if_false, if_true, List.append_nil, List.nil_append, List.cons_append]
  refine ⟨p, q, ns, ms, rfl, hp, hq, ke, fun ok => ?_⟩
  have ok' := ok
  unfold Pair at ok'
  refine ⟨p, ns, rfl, hp, by omega, fun a H1 ha s1 => ?_⟩
  simp only [x_seq, x_if, x_test, x_B, x_op, x_un, x_varS, x_var0, x_c, x_I0, x_I, x_U, x_bl, x_ret, x_next, x_asg, x_name, x_set0, x_setS, x_drop, x_cb, x_cons, x_nil, x_int1, x_abs1, x_max2, x_gcd, x_gsub, x_sl, x_part, x_nopart, x_int, x_call, x_lst, x_tup, x_not, x_and, x_or, x_andV, x_orV, x_notV, x_ifE, x_eqI, x_neI, x_eqB, x_neB, x_tbm, x_never, x_isN, x_notN, decide_eq_true_eq, Bool.false_eq_true, if_false, if_true, List.append_nil, List.nil_append, List.cons_append]
  refine ⟨q, ms, rfl, s1 _ _ hq, by omega, fun b H2 hb s2 => ?_⟩
  dsimp only
  rw [x_ltA (s2 _ _ ha) hb]
  exact k ok H2 (s1.trans s2)
/-- a comprehension over zip of two tuples of one length, whose element changes nothing; slots i, j -/
theorem lc_zipPure {tv tw te : TE} {σ : L2.St} {H : Hp} {Q : VK} {p q : Addr} {xs ys : List V} {i j : Nat} (f : Nat → V) (hv : ∀ (H : Hp) (Q : VK), tv σ H Q = Q (.ref p) H) (hw : ∀ (H : Hp) (Q : VK), tw σ H Q = Q (.ref q) H) (h : H p = some (.tup xs)) (h' : H q = some (.tup ys)) (hl : xs.length < 1000)
    (hlen : xs.length = ys.length) (hwi : ∀ x y, wipe (((wipe σ [i, j]).set i (some x)).set j (some y)) [i, j] = wipe σ [i, j])
    (he : ∀ n x y (H' : Hp) (QQ : VK), xs[n]? = some x → ys[n]? = some y → Same H H' → QQ (f n) H' → te (((wipe σ [i, j]).set i (some x)).set j (some y)) H' QQ)
    (k : ∀ D H', Same H H' → H' D = some (.lst ((List.range xs.length).map f)) → Q (.ref D) H') : tLc (iZipA K (tCons tv (tCons tw tNil))) (gTup K 2 (gCons (gName i) (gCons (gName j) gNil))) tYes te [i, j] σ H Q := by
  show tv σ H _
  rw [hv]
  show tw σ H _
  rw [hw]
  refine ⟨p, q, xs, ys, rfl, .inr ⟨SqT.at h, SqT.at h', fun D hD => ?_⟩⟩
  refine ⟨fun n m H' => m = xs.length - n ∧ n ≤ xs.length ∧ Same H H' ∧ H' D = some (.lst ((List.range n).map f)), ⟨xs.length, rfl, Nat.zero_le _, Same.new hD, upd_same⟩, ?_⟩
  rintro n m H' ⟨rfl, hn, s, hd⟩
  by_cases hlt : n < xs.length
  · have e1 : xs[n]? = some xs[n] := List.getElem?_eq_getElem hlt
    have e2 : ys[n]? = some (ys[n]'(by omega)) := List.getElem?_eq_getElem (by omega)
    refine .inr ⟨⟨xs, ys, _, _, SqT.at (s _ _ h), SqT.at (s _ _ h'), e1, e2⟩, fun H2 => Same H H2 ∧ H2 D = some (.lst ((List.range (n + 1)).map f)), fun H2 z => ⟨xs.length - (n + 1), by omega, rfl, hlt, z⟩, fun v H2 z => ?_⟩
    obtain ⟨T, x, y, rfl, hT, rfl, f1, f2⟩ := z
    have g1 := f1 xs (SqT.at (s _ _ h))
    have g2 := f2 ys (SqT.at (s _ _ h'))
    have nT : D ≠ T := ne_of_none hd hT
    refine ⟨T, [x, y], rfl, SqT.at upd_same, rfl, x, [y], rfl, y, [], rfl, rfl, hwi x y, ?_⟩
    unfold tYes
    dsimp only
    rw [if_pos rfl]
    refine he n x y _ _ g1 g2 (Same.new' s hT) ⟨_, by rw [upd_ne nT]; exact hd, ?_, ?_, ?_⟩
    · rw [List.length_map, List.length_range]
      exact Nat.lt_of_lt_of_le (show n < 1000 by omega) (by decide)
    · intro b o e
      rw [upd_ne (ne_of_none e hD)]
      exact Same.new' s hT b o e
    · rw [upd_same, List.range_succ, List.map_append]
      rfl
  · have e : n = xs.length := by omega
    subst e
    exact .inl ⟨⟨xs, ys, SqT.at (s _ _ h), SqT.at (s _ _ h'), .inl (Nat.le_refl _)⟩, k D H' s hd⟩
theorem within_all : ∀ (ns ms : List Int), ns.length = ms.length → ((List.range ns.length).map fun j => decide (ns.getD j 0 ≤ ms.getD j 0)).all id = within ns ms
  | [], [], _ => rfl
  | x :: xs, y :: ys, h => by
    have ih := within_all xs ys (by simpa using h)
    rw [List.length_cons, List.range_succ_eq_map, List.map_cons, List.map_map, List.all_cons]
    show (decide (x ≤ y) && _) = (decide (x ≤ y) && within xs ys)
    rw [← ih]
    rfl
theorem pure_divides (vs : List V) (H : Hp) (Q : VK) (E : XK) (h : spDivides Z vs H Q E) : t_divides K Z E { nx := fun _ H' => Q .non H', rt := Q } (start ["first", "second", "low", "high"] vs) H := by
  obtain ⟨p, q, ns, ms, rfl, hp, hq, ke, k⟩ := h
  show t_divides K Z E _ [some (.ref p), some (.ref q), none, none] H
  unfold t_divides
  simp only [x_seq, x_if, x_test, x_B, x_op, x_un, x_varS, x_var0, x_c, x_I0, x_I, x_U, x_bl, x_ret, x_next, x_asg, x_name, x_set0, x_setS, x_drop, x_cb, x_cons, x_nil, x_int1, x_abs1, x_max2, x_gcd, x_gsub, x_sl, x_part, x_nopart, x_int, x_call, x_lst, x_tup, x_not, x_and, x_or, x_andV, x_orV, x_notV, x_ifE, x_eqI, x_neI, x_eqB, x_neB, x_tbm, x_never, x_isN, x_notN, decide_eq_true_eq, Bool.false_eq_true, if_false, if_true, List.append_nil, List.nil_append, List.cons_append]
  refine ⟨p, q, ns, ms, rfl, hp, hq, ke, fun ok => ?_⟩
  have ok' := ok
  unfold Pair at ok'
  refine lc_zipPure (fun j => V.bl (decide (ns.getD j 0 ≤ ms.getD j 0))) (fun H Q => by simp only [x_seq, x_if, x_test, x_B, x_op, x_un, x_varS, x_var0, x_c, x_I0, x_I, x_U, x_bl, x_ret, x_next, x_asg, x_name, x_set0, x_setS, x_drop, x_cb, x_cons, x_nil, x_int1, x_abs1, x_max2, x_gcd, x_gsub, x_sl, x_part, x_nopart, x_int, x_call, x_lst, x_tup, x_not, x_and, x_or, x_andV, x_orV, x_notV, x_ifE, x_eqI, x_neI, x_eqB, x_neB, x_tbm, x_never, x_isN, x_notN, decide_eq_true_eq, Bool.false_eq_true, if_false, if_true, List.append_nil, List.nil_append, List.cons_append]) (fun H Q => by simp only [x_seq, x_if, x_test, x_B, x_op, x_un, x_varS, x_var0, x_c, x_I0, x_I, x_U, x_bl, x_ret, x_next, x_asg, x_name, x_set0, x_setS, x_drop, x_cb, x_cons, x_nil, x_int1, x_abs1, x_max2, x_gcd, x_gsub, x_sl, x_part, x_nopart, x_int, x_call, x_lst, x_tup, x_not, x_and, x_or, x_andV, x_orV, x_notV, x_ifE, x_eqI, x_neI, x_eqB, x_neB, x_tbm, x_never, x_isN, x_notN, decide_eq_true_eq, Bool.false_eq_true, if_false, if_true, List.append_nil, List.nil_append, List.cons_append]) hp hq (by rw [List.length_map]; omega) (by rw [List.length_map, List.length_map]; omega) (fun x y => rfl) (fun n x y H' QQ hx hy s kk => ?_) fun D H' s hD => ?_
  · obtain ⟨z, hz, rfl⟩ := int_at hx
    obtain ⟨u, hu, rfl⟩ := int_at hy
    show tOp _ (tVar 2) (tVar 3) [some (.ref p), some (.ref q), some (.int z), some (.int u)] H' QQ
    simp only [x_seq, x_if, x_test, x_B, x_op, x_un, x_varS, x_var0, x_c, x_I0, x_I, x_U, x_bl, x_ret, x_next, x_asg, x_name, x_set0, x_setS, x_drop, x_cb, x_cons, x_nil, x_int1, x_abs1, x_max2, x_gcd, x_gsub, x_sl, x_part, x_nopart, x_int, x_call, x_lst, x_tup, x_not, x_and, x_or, x_andV, x_orV, x_notV, x_ifE, x_eqI, x_neI, x_eqB, x_neB, x_tbm, x_never, x_isN, x_notN, decide_eq_true_eq, Bool.false_eq_true, if_false, if_true, List.append_nil, List.nil_append, List.cons_append]
    have e1 : ns.getD n 0 = z := by rw [List.getD_eq_getElem?_getD, hz]; rfl
    have e2 : ms.getD n 0 = u := by rw [List.getD_eq_getElem?_getD, hu]; rfl
    rw [e1, e2] at kk
    exact kk
  · have e : (List.range (ns.map V.int).length).map (fun j => V.bl (decide (ns.getD j 0 ≤ ms.getD j 0))) = ((List.range ns.length).map (fun j => decide (ns.getD j 0 ≤ ms.getD j 0))).map V.bl := by
      rw [List.length_map, List.map_map]
      rfl
    rw [e] at hD
    rw [x_allA hD, within_all ns ms (by omega)]
    exact k ok H' s
theorem fac_mul {x : Int} (h0 : 0 ≤ x) (h1 : x ≤ 20) : 0 ≤ facI x ∧ facI x < 2 ^ 64 := by
  have e : ∀ n : Nat, n ≤ 20 → Builtin.Math.factorialNat n < 2 ^ 64 := by decide +kernel
  unfold facI
  have := e x.toNat (by omega)
  omega
theorem pure_mfac (vs : List V) (H : Hp) (Q : VK) (E : XK) (h : spMfac Z vs H Q E) : t_mfac K Z E { nx := fun _ H' => Q .non H', rt := Q } (start ["exponents", "product", "exponent"] vs) H := by
  obtain ⟨p, ns, rfl, hp, ke, k⟩ := h
  show t_mfac K Z E _ [some (.ref p), none, none] H
  unfold t_mfac
  simp only [x_seq, x_if, x_test, x_B, x_op, x_un, x_varS, x_var0, x_c, x_I0, x_I, x_U, x_bl, x_ret, x_next, x_asg, x_name, x_set0, x_setS, x_drop, x_cb, x_cons, x_nil, x_int1, x_abs1, x_max2, x_gcd, x_gsub, x_sl, x_part, x_nopart, x_int, x_call, x_lst, x_tup, x_not, x_and, x_or, x_andV, x_orV, x_notV, x_ifE, x_eqI, x_neI, x_eqB, x_neB, x_tbm, x_never, x_isN, x_notN, decide_eq_true_eq, Bool.false_eq_true, if_false, if_true, List.append_nil, List.nil_append, List.cons_append, x_lenT hp, List.length_map]
  refine ⟨_, rfl, fun h => ke fun z => h (by omega), fun h => ?_⟩
  obtain ⟨small, k⟩ := k (by omega)
  refine ⟨_, rfl, p, rfl, ⟨_, SqT.at hp⟩, for_tup (K := K) (a := p) (xs := ns.map V.int) (fun i σ H' => H' = H ∧ ∃ w : Option V, σ = [some (.ref p), some (.int (facs (ns.take i))), w]) ⟨rfl, none, rfl⟩ (fun i σ H' _ z => z.1 ▸ SqT.at hp) ?_ ?_⟩
  · rintro i y σ H' hi ⟨rfl, w, rfl⟩
    obtain ⟨z, hz, rfl⟩ := int_at hi
    have mem := List.mem_of_getElem? hz
    obtain ⟨h0, h1⟩ := small z mem
    obtain ⟨f0, f1⟩ := fac_mul h0 h1
    simp only [x_seq, x_if, x_test, x_B, x_op, x_un, x_varS, x_var0, x_c, x_I0, x_I, x_U, x_bl, x_ret, x_next, x_asg, x_name, x_set0, x_setS, x_drop, x_cb, x_cons, x_nil, x_int1, x_abs1, x_max2, x_gcd, x_gsub, x_sl, x_part, x_nopart, x_int, x_call, x_lst, x_tup, x_not, x_and, x_or, x_andV, x_orV, x_notV, x_ifE, x_eqI, x_neI, x_eqB, x_neB, x_tbm, x_never, x_isN, x_notN, decide_eq_true_eq, Bool.false_eq_true, if_false, if_true, List.append_nil, List.nil_append, List.cons_append, x_fac h0 (show z ≤ 20000 by omega)]
    refine ⟨mul_lit ⟨by omega, f1⟩, trivial, some (.int z), ?_⟩
    have e : ns.take (i + 1) = ns.take i ++ [z] := by
      have hlt := (List.getElem?_eq_some_iff.mp hz).1
      rw [List.take_add_one, hz]
      rfl
    rw [e]
    unfold facs
    rw [List.foldl_append]
    rfl
  · rintro σ H' ⟨rfl, w, rfl⟩
    simp only [x_seq, x_if, x_test, x_B, x_op, x_un, x_varS, x_var0, x_c, x_I0, x_I, x_U, x_bl, x_ret, x_next, x_asg, x_name, x_set0, x_setS, x_drop, x_cb, x_cons, x_nil, x_int1, x_abs1, x_max2, x_gcd, x_gsub, x_sl, x_part, x_nopart, x_int, x_call, x_lst, x_tup, x_not, x_and, x_or, x_andV, x_orV, x_notV, x_ifE, x_eqI, x_neI, x_eqB, x_neB, x_tbm, x_never, x_isN, x_notN, decide_eq_true_eq, Bool.false_eq_true, if_false, if_true, List.append_nil, List.nil_append, List.cons_append]
    rw [List.length_map, List.take_length]
    exact k
end
end SpX

set_option Elab.async false
set_option linter.all false
set_option maxRecDepth 100000
set_option maxHeartbeats 2000000
namespace SpX
open PySem PySem.Spec L2 StX RZ
theorem for_rngE {ta : TA} {j : Int} {g : TG} {tb : TS} {D : Ends} {σ : L2.St} {H : Hp} (he : ∀ QA : List V → Hp → Prop, ta σ H QA = QA [.int j] H) (hj : -1000 ≤ j ∧ j < 1000) (Pv : Nat → L2.St → Hp → Prop) (h0 : Pv 0 σ H)
    (hs : ∀ (i : Nat) σ H, (i : Int) < j → Pv i σ H → g (.int i) σ H fun σ2 H2 => tb { D with nx := Pv (i + 1), ct := Pv (i + 1), bk := D.nx } σ2 H2) (hd : ∀ σ H, Pv j.toNat σ H → D.nx σ H) : tFor (iRng1 ta) g tb D σ H := by
  show ta σ H _
  rw [he]
  refine ⟨j, rfl, by omega, by omega, for_range (lo := 0) (n := j.toNat) Pv h0 (fun i σ H hi h => ?_) hd⟩
  have := hs i σ H (by omega) h
  rwa [Int.zero_add]
theorem for_tupE {K : PySem.W.Frag} {te : TE} {a : Addr} {xs : List V} {g : TG} {tb : TS} {D : Ends} {σ : L2.St} {H : Hp} (he : ∀ Q : VK, te σ H Q = Q (.ref a) H) (Pv : Nat → L2.St → Hp → Prop) (h0 : Pv 0 σ H) (hl : ∀ i σ H, i ≤ xs.length → Pv i σ H → H a = some (.tup xs))
    (hs : ∀ i x σ H, xs[i]? = some x → Pv i σ H → g x σ H fun σ2 H2 => tb { D with nx := Pv (i + 1), ct := Pv (i + 1), bk := D.nx } σ2 H2) (hd : ∀ σ H, Pv xs.length σ H → D.nx σ H) : tFor (iTup K te) g tb D σ H := by
  show te σ H _
  rw [he]
  exact ⟨a, rfl, ⟨xs, SqT.at (hl 0 σ H (Nat.zero_le _) h0)⟩, for_tup Pv h0 (fun i σ H h p => SqT.at (hl i σ H h p)) hs hd⟩
theorem for_lstE {K : PySem.W.Frag} {te : TE} {a : Addr} {xs : List V} {g : TG} {tb : TS} {D : Ends} {σ : L2.St} {H : Hp} (he : ∀ Q : VK, te σ H Q = Q (.ref a) H) (Pv : Nat → L2.St → Hp → Prop) (h0 : Pv 0 σ H) (hl : ∀ i σ H, i ≤ xs.length → Pv i σ H → H a = some (.lst xs))
    (hs : ∀ i x σ H, xs[i]? = some x → Pv i σ H → g x σ H fun σ2 H2 => tb { D with nx := Pv (i + 1), ct := Pv (i + 1), bk := D.nx } σ2 H2) (hd : ∀ σ H, Pv xs.length σ H → D.nx σ H) : tFor (iList K te) g tb D σ H := by
  show te σ H _
  rw [he]
  exact ⟨a, rfl, ⟨xs, SqL.at (hl 0 σ H (Nat.zero_le _) h0)⟩, for_list Pv h0 (fun i σ H h p => SqL.at (hl i σ H h p)) hs hd⟩
/-! ### the order -/
theorem lex_same : ∀ xs : List Int, HT.lexLt xs xs = false
  | [] => rfl
  | x :: xs => by rw [HT.lexLt_cons, if_pos rfl]; exact lex_same xs
theorem lex_at : ∀ (i : Nat) (xs ys : List Int) (x y : Int), xs.take i = ys.take i → xs[i]? = some x → ys[i]? = some y → x ≠ y → HT.lexLt xs ys = decide (x < y)
  | 0, a :: xs, b :: ys, x, y, _, h1, h2, hn => by
    cases h1; cases h2
    rw [HT.lexLt_cons, if_neg hn]
  | i + 1, a :: xs, b :: ys, x, y, ht, h1, h2, hn => by
    rw [List.take_succ_cons, List.take_succ_cons] at ht
    injection ht with e ht
    rw [HT.lexLt_cons, if_pos e]
    exact lex_at i xs ys x y ht h1 h2 hn
  | 0, [], _, _, _, _, h1, _, _ => by cases h1
  | 0, _ :: _, [], _, _, _, _, h2, _ => by cases h2
  | _ + 1, [], _, _, _, _, h1, _, _ => by cases h1
  | _ + 1, _ :: _, [], _, _, _, _, h2, _ => by cases h2
theorem atI_map' {ns : List Int} {i : Nat} {z : Int} (h : ns[i]? = some z) : atI (ns.map V.int) (i : Int) = some (.int z) := by
  rw [atI_nat (v := .int z) (by rw [List.getElem?_map, h]; rfl)]
theorem get_lt {ns : List Int} {i : Nat} (h : i < ns.length) : ∃ z, ns[i]? = some z := ⟨ns[i], List.getElem?_eq_getElem h⟩
theorem take_next {ns : List Int} {i : Nat} {z : Int} (h : ns[i]? = some z) : ns.take (i + 1) = ns.take i ++ [z] := by
  rw [List.take_add_one, h]
  rfl
def spLbefore : Sp := fun vs H Q _ => ∃ (p q : Addr) (ns ms : List Int), vs = [.ref p, .ref q] ∧ ExpAt H p ns ∧ ExpAt H q ms ∧ ms.length = ns.length ∧ ns.length < 100 ∧ Q (.bl (HT.lexLt (plc ns) (plc ms))) H
def spLwithin : Sp := fun vs H Q _ => ∃ (p q : Addr) (ns ms : List Int), vs = [.ref p, .ref q] ∧ ExpAt H p ns ∧ ExpAt H q ms ∧ ms.length = ns.length ∧ ns.length < 100 ∧ Q (.bl (within ns ms)) H
def spLfac : Sp := fun vs H Q _ => ∃ (p : Addr) (ns : List Int), vs = [.ref p] ∧ ExpAt H p ns ∧ ns.length ≤ 3 ∧ (∀ x ∈ ns, 0 ≤ x ∧ x ≤ 20) ∧ Q (.int (facs ns)) H
/-- how many monomials up to a degree -/
def many (d k : Int) : Int := if d = 1 then k + 1 else if d = 2 then ((k + 1) * (k + 2)).fdiv 2 else ((k + 1) * (k + 2) * (k + 3)).fdiv 6
def spLmany : Sp := fun vs H Q _ => ∃ d k : Int, vs = [.int d, .int k] ∧ -10 ≤ k ∧ k ≤ 100 ∧ Q (.int (many d k)) H
def spSays : Sp := fun vs H Q _ => ∃ a b : Bool, vs = [.bl a, .bl b] ∧ Q (.bl (decide (a = b))) H
def t_lbefore (K : PySem.W.Frag) (Z : Addr) (E : XK) : TS :=
    (tSeq (tIfS (tTest (tOp rNe (tCB rSumA (tCons (tVar 0) tNil)) (tCB rSumA (tCons (tVar 1) tNil)))) (tRet (tOp (rI0 fun i j => .bl (decide (i < j))) (tCB rSumA (tCons (tVar 0) tNil)) (tCB rSumA (tCons (tVar 1) tNil)))) tNext)
    (tSeq (tFor (iRng1 (tCons (tCB rLenA (tCons (tVar 0) tNil)) tNil)) (gName 2) ((tIfS (tTest (tOp rNe (tOp rIx1 (tVar 0) (tVar 2)) (tOp rIx1 (tVar 1) (tVar 2)))) (tRet (tOp (rI0 fun i j => .bl (decide (j < i))) (tOp rIx1 (tVar 0) (tVar 2)) (tOp rIx1 (tVar 1) (tVar 2)))) tNext)))
    (tRet (tC (.bl false)))))
def t_lwithin (K : PySem.W.Frag) (Z : Addr) (E : XK) : TS :=
    (tSeq (tFor (iRng1 (tCons (tCB rLenA (tCons (tVar 0) tNil)) tNil)) (gName 2) ((tIfS (tTest (tOp (rI0 fun i j => .bl (decide (j < i))) (tOp rIx1 (tVar 0) (tVar 2)) (tOp rIx1 (tVar 1) (tVar 2)))) (tRet (tC (.bl false))) tNext)))
    (tRet (tC (.bl true))))
def t_lfac (K : PySem.W.Frag) (Z : Addr) (E : XK) : TS :=
    (tSeq (tAsg (tC (.int 1)) (gName 1))
    (tSeq (tFor (iTup K (tVar 0)) (gName 2) ((tFor (iRng1 (tCons (tVar 2) tNil)) (gName 3) ((tAsg (tOp (rI IntMulOk fun i j => .int (i * j)) (tVar 1) (tOp (rI0 fun i j => .int (i + j)) (tVar 3) (tC (.int 1)))) (gName 1))))))
    (tRet (tVar 1))))
def t_lmany (K : PySem.W.Frag) (Z : Addr) (E : XK) : TS :=
    (tSeq (tIfS (tTest (tOp rEq (tVar 0) (tC (.int 1)))) (tRet (tOp (rI0 fun i j => .int (i + j)) (tVar 1) (tC (.int 1)))) tNext)
    (tSeq (tIfS (tTest (tOp rEq (tVar 0) (tC (.int 2)))) (tRet (tOp (rI CDivF fun i j => .int (i.fdiv j)) (tOp (rI IntMulOk fun i j => .int (i * j)) (tOp (rI0 fun i j => .int (i + j)) (tVar 1) (tC (.int 1))) (tOp (rI0 fun i j => .int (i + j)) (tVar 1) (tC (.int 2)))) (tC (.int 2)))) tNext)
    (tRet (tOp (rI CDivF fun i j => .int (i.fdiv j)) (tOp (rI IntMulOk fun i j => .int (i * j)) (tOp (rI IntMulOk fun i j => .int (i * j)) (tOp (rI0 fun i j => .int (i + j)) (tVar 1) (tC (.int 1))) (tOp (rI0 fun i j => .int (i + j)) (tVar 1) (tC (.int 2)))) (tOp (rI0 fun i j => .int (i + j)) (tVar 1) (tC (.int 3)))) (tC (.int 6))))))
def t_says (K : PySem.W.Frag) (Z : Addr) (E : XK) : TS :=
    (tRet (tAndV (tCB rIsB (tCons (tVar 0) (tCons (tC (.ty "bool")) tNil))) (tOp rEq (tVar 0) (tVar 1))))
section
variable {K : PySem.W.Frag} {Z : Addr}
theorem pure_lbefore (vs : List V) (H : Hp) (Q : VK) (E : XK) (h : spLbefore vs H Q E) : t_lbefore K Z E { nx := fun _ H' => Q .non H', rt := Q } (start ["first", "second", "k"] vs) H := by
  obtain ⟨p, q, ns, ms, rfl, hp, hq, hl, h100, k⟩ := h
  show t_lbefore K Z E _ [some (.ref p), some (.ref q), none] H
  unfold t_lbefore
  rw [x_seq]
  simp only [x_if, x_test, x_B, x_op, x_un, x_varS, x_var0, x_c, x_I0, x_I, x_U, x_bl, x_ret, x_next, x_asg, x_name, x_set0, x_setS, x_drop, x_cb, x_cons, x_nil, x_int1, x_abs1, x_max2, x_gcd, x_gsub, x_sl, x_part, x_nopart, x_int, x_call, x_lst, x_tup, x_not, x_and, x_or, x_andV, x_orV, x_notV, x_ifE, x_eqI, x_neI, x_eqB, x_neB, x_tbm, x_never, x_isN, x_notN, decide_eq_true_eq, Bool.false_eq_true, if_false, if_true, List.append_nil, List.nil_append, List.cons_append, x_sumT hp, x_sumT hq]
  unfold plc at k
  rw [HT.lexLt_cons] at k
  refine ite2 (fun h => ?_) fun h => ?_
  · have h' : ¬ ns.sum = ms.sum := by simpa using h
    rw [if_neg h'] at k
    exact k
  have h' : ns.sum = ms.sum := by simpa using h
  rw [if_pos h'] at k
  rw [x_seq]
  refine for_rngE (j := (ns.length : Int)) (fun QA => by simp only [x_if, x_test, x_B, x_op, x_un, x_varS, x_var0, x_c, x_I0, x_I, x_U, x_bl, x_ret, x_next, x_asg, x_name, x_set0, x_setS, x_drop, x_cb, x_cons, x_nil, x_int1, x_abs1, x_max2, x_gcd, x_gsub, x_sl, x_part, x_nopart, x_int, x_call, x_lst, x_tup, x_not, x_and, x_or, x_andV, x_orV, x_notV, x_ifE, x_eqI, x_neI, x_eqB, x_neB, x_tbm, x_never, x_isN, x_notN, decide_eq_true_eq, Bool.false_eq_true, if_false, if_true, List.append_nil, List.nil_append, List.cons_append, x_lenT hp, List.length_map]) (by omega) (fun i σ H' => H' = H ∧ (∃ w : Option V, σ = [some (.ref p), some (.ref q), w]) ∧ (ns.map fun x => -x).take i = (ms.map fun x => -x).take i) ⟨rfl, ⟨_, rfl⟩, rfl⟩ ?_ ?_
  · rintro i σ H' hi ⟨rfl, ⟨w, rfl⟩, ht⟩
    obtain ⟨z, hz⟩ := get_lt (ns := ns) (i := i) (by omega)
    obtain ⟨u, hu⟩ := get_lt (ns := ms) (i := i) (by omega)
    have e1 : (ns.map fun x => -x)[i]? = some (-z) := by rw [List.getElem?_map, hz]; rfl
    have e2 : (ms.map fun x => -x)[i]? = some (-u) := by rw [List.getElem?_map, hu]; rfl
    simp only [x_if, x_test, x_B, x_op, x_un, x_varS, x_var0, x_c, x_I0, x_I, x_U, x_bl, x_ret, x_next, x_asg, x_name, x_set0, x_setS, x_drop, x_cb, x_cons, x_nil, x_int1, x_abs1, x_max2, x_gcd, x_gsub, x_sl, x_part, x_nopart, x_int, x_call, x_lst, x_tup, x_not, x_and, x_or, x_andV, x_orV, x_notV, x_ifE, x_eqI, x_neI, x_eqB, x_neB, x_tbm, x_never, x_isN, x_notN, decide_eq_true_eq, Bool.false_eq_true, if_false, if_true, List.append_nil, List.nil_append, List.cons_append, x_ixT hp (atI_map' hz), x_ixT hq (atI_map' hu)]
    refine ite2 (fun h => ?_) fun h => ?_
    · have hn : z ≠ u := by simpa using h
      rw [lex_at i _ _ _ _ ht e1 e2 (by omega)] at k
      have e : decide (-z < -u) = decide (u < z) := decide_eq_decide.mpr (by omega)
      rw [e] at k
      exact k
    · have he : z = u := by simpa using h
      refine ⟨trivial, ⟨_, rfl⟩, ?_⟩
      rw [take_next e1, take_next e2, ht, he]
  · rintro σ H' ⟨rfl, ⟨w, rfl⟩, ht⟩
    simp only [x_if, x_test, x_B, x_op, x_un, x_varS, x_var0, x_c, x_I0, x_I, x_U, x_bl, x_ret, x_next, x_asg, x_name, x_set0, x_setS, x_drop, x_cb, x_cons, x_nil, x_int1, x_abs1, x_max2, x_gcd, x_gsub, x_sl, x_part, x_nopart, x_int, x_call, x_lst, x_tup, x_not, x_and, x_or, x_andV, x_orV, x_notV, x_ifE, x_eqI, x_neI, x_eqB, x_neB, x_tbm, x_never, x_isN, x_notN, decide_eq_true_eq, Bool.false_eq_true, if_false, if_true, List.append_nil, List.nil_append, List.cons_append]
    have e : (ns.map fun x => -x) = (ms.map fun x => -x) := by
      rw [List.take_of_length_le (by rw [List.length_map]; omega), List.take_of_length_le (by rw [List.length_map]; omega)] at ht
      exact ht
    rw [e, lex_same] at k
    exact k
theorem within_take : ∀ (ns ms : List Int), ns.length = ms.length → (∀ (i : Nat) (x y : Int), ns[i]? = some x → ms[i]? = some y → x ≤ y) → within ns ms = true
  | [], _, _, _ => by simp [within]
  | _ :: _, [], h, _ => by simp at h
  | x :: xs, y :: ys, h, k => by
    have h0 := k 0 x y rfl rfl
    have ih := within_take xs ys (by simpa using h) fun i a b ha hb => k (i + 1) a b ha hb
    simp [within, h0, ih]
theorem within_not : ∀ (i : Nat) (ns ms : List Int) (x y : Int), ns[i]? = some x → ms[i]? = some y → y < x → within ns ms = false
  | 0, a :: xs, b :: ys, x, y, h1, h2, hn => by
    cases h1; cases h2
    simp [within, show ¬ (a ≤ b) by omega]
  | i + 1, a :: xs, b :: ys, x, y, h1, h2, hn => by
    have ih := within_not i xs ys x y h1 h2 hn
    simp [within, ih]
  | 0, [], _, _, _, h1, _, _ => by cases h1
  | 0, _ :: _, [], _, _, _, h2, _ => by cases h2
  | _ + 1, [], _, _, _, h1, _, _ => by cases h1
  | _ + 1, _ :: _, [], _, _, _, h2, _ => by cases h2
theorem pure_lwithin (vs : List V) (H : Hp) (Q : VK) (E : XK) (h : spLwithin vs H Q E) : t_lwithin K Z E { nx := fun _ H' => Q .non H', rt := Q } (start ["first", "second", "k"] vs) H := by
  obtain ⟨p, q, ns, ms, rfl, hp, hq, hl, h100, k⟩ := h
  show t_lwithin K Z E _ [some (.ref p), some (.ref q), none] H
  unfold t_lwithin
  rw [x_seq]
  refine for_rngE (j := (ns.length : Int)) (fun QA => by simp only [x_if, x_test, x_B, x_op, x_un, x_varS, x_var0, x_c, x_I0, x_I, x_U, x_bl, x_ret, x_next, x_asg, x_name, x_set0, x_setS, x_drop, x_cb, x_cons, x_nil, x_int1, x_abs1, x_max2, x_gcd, x_gsub, x_sl, x_part, x_nopart, x_int, x_call, x_lst, x_tup, x_not, x_and, x_or, x_andV, x_orV, x_notV, x_ifE, x_eqI, x_neI, x_eqB, x_neB, x_tbm, x_never, x_isN, x_notN, decide_eq_true_eq, Bool.false_eq_true, if_false, if_true, List.append_nil, List.nil_append, List.cons_append, x_lenT hp, List.length_map]) (by omega) (fun i σ H' => H' = H ∧ (∃ w : Option V, σ = [some (.ref p), some (.ref q), w]) ∧ ∀ (j : Nat) (x y : Int), j < i → ns[j]? = some x → ms[j]? = some y → x ≤ y) ⟨rfl, ⟨_, rfl⟩, fun j x y h => absurd h (by omega)⟩ ?_ ?_
  · rintro i σ H' hi ⟨rfl, ⟨w, rfl⟩, ht⟩
    obtain ⟨z, hz⟩ := get_lt (ns := ns) (i := i) (by omega)
    obtain ⟨u, hu⟩ := get_lt (ns := ms) (i := i) (by omega)
    simp only [x_if, x_test, x_B, x_op, x_un, x_varS, x_var0, x_c, x_I0, x_I, x_U, x_bl, x_ret, x_next, x_asg, x_name, x_set0, x_setS, x_drop, x_cb, x_cons, x_nil, x_int1, x_abs1, x_max2, x_gcd, x_gsub, x_sl, x_part, x_nopart, x_int, x_call, x_lst, x_tup, x_not, x_and, x_or, x_andV, x_orV, x_notV, x_ifE, x_eqI, x_neI, x_eqB, x_neB, x_tbm, x_never, x_isN, x_notN, decide_eq_true_eq, Bool.false_eq_true, if_false, if_true, List.append_nil, List.nil_append, List.cons_append, x_ixT hp (atI_map' hz), x_ixT hq (atI_map' hu)]
    refine ite2 (fun h => ?_) fun h => ?_
    · rw [within_not i ns ms z u hz hu h] at k
      exact k
    · refine ⟨trivial, ⟨_, rfl⟩, fun j x y hj hx hy => ?_⟩
      by_cases e : j = i
      · subst e
        rw [hz] at hx
        rw [hu] at hy
        cases hx; cases hy
        omega
      · exact ht j x y (by omega) hx hy
  · rintro σ H' ⟨rfl, ⟨w, rfl⟩, ht⟩
    simp only [x_if, x_test, x_B, x_op, x_un, x_varS, x_var0, x_c, x_I0, x_I, x_U, x_bl, x_ret, x_next, x_asg, x_name, x_set0, x_setS, x_drop, x_cb, x_cons, x_nil, x_int1, x_abs1, x_max2, x_gcd, x_gsub, x_sl, x_part, x_nopart, x_int, x_call, x_lst, x_tup, x_not, x_and, x_or, x_andV, x_orV, x_notV, x_ifE, x_eqI, x_neI, x_eqB, x_neB, x_tbm, x_never, x_isN, x_notN, decide_eq_true_eq, Bool.false_eq_true, if_false, if_true, List.append_nil, List.nil_append, List.cons_append]
    rw [within_take ns ms (by omega) fun i x y hx hy => ht i x y (by have := (List.getElem?_eq_some_iff.mp hx).1; omega) hx hy] at k
    exact k
theorem pure_lmany (vs : List V) (H : Hp) (Q : VK) (E : XK) (h : spLmany vs H Q E) : t_lmany K Z E { nx := fun _ H' => Q .non H', rt := Q } (start ["dimension", "high"] vs) H := by
  obtain ⟨d, j, rfl, h0, h1, k⟩ := h
  show t_lmany K Z E _ [some (.int d), some (.int j)] H
  unfold t_lmany
  simp only [x_seq, x_if, x_test, x_B, x_op, x_un, x_varS, x_var0, x_c, x_I0, x_I, x_U, x_bl, x_ret, x_next, x_asg, x_name, x_set0, x_setS, x_drop, x_cb, x_cons, x_nil, x_int1, x_abs1, x_max2, x_gcd, x_gsub, x_sl, x_part, x_nopart, x_int, x_call, x_lst, x_tup, x_not, x_and, x_or, x_andV, x_orV, x_notV, x_ifE, x_eqI, x_neI, x_eqB, x_neB, x_tbm, x_never, x_isN, x_notN, decide_eq_true_eq, Bool.false_eq_true, if_false, if_true, List.append_nil, List.nil_append, List.cons_append]
  unfold many at k
  refine ite2 (fun h => ?_) fun h => ite2 (fun h2 => ⟨mul_lit (by omega), small_div (by decide), ?_⟩) fun h2 => ⟨mul_lit (by omega), mul_lit (by omega), small_div (by decide), ?_⟩
  · rwa [if_pos h] at k
  · rwa [if_neg h, if_pos h2] at k
  · rwa [if_neg h, if_neg h2] at k
theorem pure_says (vs : List V) (H : Hp) (Q : VK) (E : XK) (h : spSays vs H Q E) : t_says K Z E { nx := fun _ H' => Q .non H', rt := Q } (start ["told", "due"] vs) H := by
  obtain ⟨a, b, rfl, k⟩ := h
  show t_says K Z E _ [some (.bl a), some (.bl b)] H
  unfold t_says
  simp only [x_seq, x_if, x_test, x_B, x_op, x_un, x_varS, x_var0, x_c, x_I0, x_I, x_U, x_bl, x_ret, x_next, x_asg, x_name, x_set0, x_setS, x_drop, x_cb, x_cons, x_nil, x_int1, x_abs1, x_max2, x_gcd, x_gsub, x_sl, x_part, x_nopart, x_int, x_call, x_lst, x_tup, x_not, x_and, x_or, x_andV, x_orV, x_notV, x_ifE, x_eqI, x_neI, x_eqB, x_neB, x_tbm, x_never, x_isN, x_notN, decide_eq_true_eq, Bool.false_eq_true, if_false, if_true, List.append_nil, List.nil_append, List.cons_append, x_isBB]
  exact k
theorem fac_next (n : Nat) : Builtin.Math.factorialNat (n + 1) = Builtin.Math.factorialNat n * (n + 1) := PySem.W.mc_fac_succ n
theorem pure_lfac (vs : List V) (H : Hp) (Q : VK) (E : XK) (h : spLfac vs H Q E) : t_lfac K Z E { nx := fun _ H' => Q .non H', rt := Q } (start ["exponents", "found", "exponent", "k"] vs) H := by
  obtain ⟨p, ns, rfl, hp, hl, small, k⟩ := h
  show t_lfac K Z E _ [some (.ref p), none, none, none] H
  unfold t_lfac
  rw [x_seq]
  simp only [x_if, x_test, x_B, x_op, x_un, x_varS, x_var0, x_c, x_I0, x_I, x_U, x_bl, x_ret, x_next, x_asg, x_name, x_set0, x_setS, x_drop, x_cb, x_cons, x_nil, x_int1, x_abs1, x_max2, x_gcd, x_gsub, x_sl, x_part, x_nopart, x_int, x_call, x_lst, x_tup, x_not, x_and, x_or, x_andV, x_orV, x_notV, x_ifE, x_eqI, x_neI, x_eqB, x_neB, x_tbm, x_never, x_isN, x_notN, decide_eq_true_eq, Bool.false_eq_true, if_false, if_true, List.append_nil, List.nil_append, List.cons_append]
  rw [x_seq]
  refine for_tupE (xs := ns.map V.int) (fun Q => by simp only [x_if, x_test, x_B, x_op, x_un, x_varS, x_var0, x_c, x_I0, x_I, x_U, x_bl, x_ret, x_next, x_asg, x_name, x_set0, x_setS, x_drop, x_cb, x_cons, x_nil, x_int1, x_abs1, x_max2, x_gcd, x_gsub, x_sl, x_part, x_nopart, x_int, x_call, x_lst, x_tup, x_not, x_and, x_or, x_andV, x_orV, x_notV, x_ifE, x_eqI, x_neI, x_eqB, x_neB, x_tbm, x_never, x_isN, x_notN, decide_eq_true_eq, Bool.false_eq_true, if_false, if_true, List.append_nil, List.nil_append, List.cons_append]) (fun i σ H' => H' = H ∧ ∃ w v : Option V, σ = [some (.ref p), some (.int (facs (ns.take i))), w, v]) ⟨rfl, _, _, rfl⟩ (fun i σ H' _ z => z.1 ▸ hp) ?_ ?_
  · rintro i y σ H' hi ⟨rfl, w, v, rfl⟩
    obtain ⟨z, hz, rfl⟩ := int_at hi
    obtain ⟨h0, h1⟩ := small z (List.mem_of_getElem? hz)
    simp only [x_name, x_setS, x_set0]
    refine for_rngE (j := z) (fun QA => by simp only [x_if, x_test, x_B, x_op, x_un, x_varS, x_var0, x_c, x_I0, x_I, x_U, x_bl, x_ret, x_next, x_asg, x_name, x_set0, x_setS, x_drop, x_cb, x_cons, x_nil, x_int1, x_abs1, x_max2, x_gcd, x_gsub, x_sl, x_part, x_nopart, x_int, x_call, x_lst, x_tup, x_not, x_and, x_or, x_andV, x_orV, x_notV, x_ifE, x_eqI, x_neI, x_eqB, x_neB, x_tbm, x_never, x_isN, x_notN, decide_eq_true_eq, Bool.false_eq_true, if_false, if_true, List.append_nil, List.nil_append, List.cons_append]) (by omega) (fun n σ H2 => H2 = H' ∧ ∃ v : Option V, σ = [some (.ref p), some (.int (facs (ns.take i) * ((Builtin.Math.factorialNat n : Nat) : Int))), some (.int z), v]) ⟨rfl, v, by rw [show Builtin.Math.factorialNat 0 = 1 from rfl]; simp⟩ ?_ ?_
    · rintro n σ H2 hn ⟨rfl, v, rfl⟩
      simp only [x_if, x_test, x_B, x_op, x_un, x_varS, x_var0, x_c, x_I0, x_I, x_U, x_bl, x_ret, x_next, x_asg, x_name, x_set0, x_setS, x_drop, x_cb, x_cons, x_nil, x_int1, x_abs1, x_max2, x_gcd, x_gsub, x_sl, x_part, x_nopart, x_int, x_call, x_lst, x_tup, x_not, x_and, x_or, x_andV, x_orV, x_notV, x_ifE, x_eqI, x_neI, x_eqB, x_neB, x_tbm, x_never, x_isN, x_notN, decide_eq_true_eq, Bool.false_eq_true, if_false, if_true, List.append_nil, List.nil_append, List.cons_append]
      refine ⟨mul_lit (by omega), trivial, some (.int n), ?_⟩
      rw [fac_next, Int.mul_assoc]
      congr 4
    · rintro σ H2 ⟨rfl, v, rfl⟩
      refine ⟨rfl, some (.int z), v, ?_⟩
      rw [take_next hz]
      unfold facs
      rw [List.foldl_append]
      rfl
  · rintro σ H' ⟨rfl, w, v, rfl⟩
    simp only [x_if, x_test, x_B, x_op, x_un, x_varS, x_var0, x_c, x_I0, x_I, x_U, x_bl, x_ret, x_next, x_asg, x_name, x_set0, x_setS, x_drop, x_cb, x_cons, x_nil, x_int1, x_abs1, x_max2, x_gcd, x_gsub, x_sl, x_part, x_nopart, x_int, x_call, x_lst, x_tup, x_not, x_and, x_or, x_andV, x_orV, x_notV, x_ifE, x_eqI, x_neI, x_eqB, x_neB, x_tbm, x_never, x_isN, x_notN, decide_eq_true_eq, Bool.false_eq_true, if_false, if_true, List.append_nil, List.nil_append, List.cons_append]
    rw [List.length_map, List.take_length]
    exact k
end
end SpX

set_option Elab.async false
set_option linter.all false
set_option maxRecDepth 100000
set_option maxHeartbeats 2000000
namespace SpX
open PySem PySem.Spec L2 StX RZ
theorem cut_drop {xs : List V} {c : Nat} (h : c ≤ xs.length) : cutV xs (some (c : Int)) none = xs.drop c := by
  unfold cutV
  rw [HT.sIx_nat, HT.sIx_none, Nat.min_eq_left h]
  exact List.take_of_length_le (by rw [List.length_drop]; omega)
theorem cut_take {xs : List V} {c : Nat} (h : c ≤ xs.length) : cutV xs none (some (c : Int)) = xs.take c := by
  unfold cutV
  rw [HT.sIx_nat, HT.sIx_none, Nat.min_eq_left h]
  simp
/-- what B names is there -/
def There (B : Addr → Prop) (H : Hp) : Prop := ∀ b, B b → ∃ o, H b = some o
theorem There.same {B : Addr → Prop} {H H' : Hp} (h : There B H) (k : Same H H') : There B H' := fun b z => by
  obtain ⟨o, e⟩ := h b z
  exact ⟨o, k _ _ e⟩
theorem There.keep {B : Addr → Prop} {H H' : Hp} {P : Addr} (h : There B H) (k : Keep P H H') (hp : ∃ o, H' P = some o) : There B H' := fun b z => by
  obtain ⟨o, e⟩ := h b z
  by_cases q : b = P
  · rw [q]
    exact hp
  · exact ⟨o, k _ _ q e⟩
theorem There.more {B : Addr → Prop} {H : Hp} {F : Addr} {o : HO} (h : There B H) (n : H F = none) : There (fun b => B b ∨ b = F) (upd H F o) := by
  rintro b (z | rfl)
  · exact h.same (Same.new n) b z
  · exact ⟨o, upd_same⟩
theorem ExpAt.keep {B : Addr → Prop} {H H' : Hp} {P o : Addr} {ns : List Int} (h : ExpAt H o ns) (hp : PoolB B H P) (k : Keep P H H') : ExpAt H' o ns := k _ _ (tup_off hp h) h
theorem pool_some {B : Addr → Prop} {H : Hp} {P : Addr} (h : PoolB B H P) : ∃ o, H P = some o := by
  obtain ⟨xs, e⟩ := h.there
  exact ⟨_, e⟩
/-- a draw below a bound (0 where the bound is at most 1) -/
theorem take_to {P : Addr} {most : Int} {H : Hp} {Q : VK} {E : XK} {B : Addr → Prop} (hp : PoolB B H P) (th : There B H) (h0 : -1000 ≤ most) (h1 : most < 1000) (k : ∀ (r : Int) (H' : Hp), PoolB B H' P → Keep P H H' → 0 ≤ r → (1 ≤ most → r < most) → Q (.int r) H') : spTakeB [.ref P, .int most] H Q E := by
  refine ⟨P, most, B, rfl, hp, th, Nat.lt_of_lt_of_le (show most.natAbs < 2 ^ 10 by omega) (Nat.pow_le_pow_right (by decide) (by decide)), fun r H' a b c d e => k r H' a b c fun h => ?_⟩
  by_cases h2 : 2 ≤ most
  · exact d h2
  · have := e (by omega)
    omega
/-- exponents of a degree at most high -/
structure Exps (ns : List Int) (d : Int) (high : Int) : Prop where
  len : (ns.length : Int) = d
  pos : ∀ x ∈ ns, 0 ≤ x
  sum : ns.sum ≤ high
def GivesE (P : Addr) (B : Addr → Prop) (H : Hp) (d high : Int) (Q : VK) : Prop := ∀ (q : Addr) (ns : List Int) (H' : Hp), ExpAt H' q ns → PoolB B H' P → Keep P H H' → Exps ns d high → Q (.ref q) H'
def spLexp : Sp := fun vs H Q _ => ∃ (P : Addr) (d high : Int) (B : Addr → Prop), vs = [.ref P, .int d, .int high] ∧ PoolB B H P ∧ There B H ∧ 1 ≤ d ∧ d ≤ 3 ∧ 0 ≤ high ∧ high ≤ 16 ∧ GivesE P B H d high Q
theorem sum_nonneg : ∀ l : List Int, (∀ x ∈ l, 0 ≤ x) → 0 ≤ l.sum
  | [], _ => by simp
  | a :: r, h => by
    rw [List.sum_cons]
    have := h a (List.mem_cons_self)
    have := sum_nonneg r fun x hx => h x (List.mem_cons_of_mem _ hx)
    omega
theorem drop_take_sum (l : List Int) (c : Nat) : (l.drop c ++ l.take c).sum = l.sum := by
  have e : l.sum = (l.take c ++ l.drop c).sum := by rw [List.take_append_drop]
  rw [e, List.sum_append, List.sum_append, Int.add_comm]
theorem drop_take_mem {l : List Int} {c : Nat} {x : Int} (h : x ∈ l.drop c ++ l.take c) : x ∈ l := by
  rcases List.mem_append.mp h with h | h
  · exact List.mem_of_mem_drop h
  · exact List.mem_of_mem_take h
def spLodeg : Sp := fun vs H Q _ => ∃ (P : Addr) (d total : Int) (B : Addr → Prop), vs = [.ref P, .int d, .int total] ∧ PoolB B H P ∧ There B H ∧ 1 ≤ d ∧ d ≤ 3 ∧ 0 ≤ total ∧ total ≤ 16 ∧ GivesE P B H d total Q
def spLsecond : Sp := fun vs H Q _ => ∃ (P p : Addr) (ns : List Int) (d : Int) (B : Addr → Prop), vs = [.ref P, .ref p] ∧ PoolB B H P ∧ There B H ∧ ExpAt H p ns ∧ Exps ns d 16 ∧ 1 ≤ d ∧ d ≤ 3 ∧ GivesE P B H d 16 Q
def t_lexp (K : PySem.W.Frag) (Z : Addr) (E : XK) : TS :=
    (tSeq (tAsg (tVar 2) (gName 3))
    (tSeq (tAsg (tLst tNil) (gName 4))
    (tSeq (tFor (iRng1 (tCons (tVar 1) tNil)) (gName 5) ((tSeq (tAsg (tCall spTakeB [] E0 (tCons (tVar 0) (tCons (tOp (rI0 fun i j => .int (i + j)) (tVar 3) (tC (.int 1))) tNil))) (gName 7))
    (tSeq (tAsg (tOp (rI0 fun i j => .int (i - j)) (tVar 3) (tVar 7)) (gName 3))
    (tDrop (tBM K "list" rAppend (tVar 4) (tCons (tVar 7) tNil)))))))
    (tSeq (tAsg (tCall spTakeB [] E0 (tCons (tVar 0) (tCons (tVar 1) tNil))) (gName 6))
    (tRet (tCB rTupA (tCons (tOp rCat (tSl rSlA (tVar 4) (tPart (tVar 6)) tNoPart) (tSl rSlA (tVar 4) tNoPart (tPart (tVar 6)))) tNil)))))))
def t_lodeg (K : PySem.W.Frag) (Z : Addr) (E : XK) : TS :=
    (tSeq (tAsg (tCB rListA (tCons (tCall spLexp [] E0 (tCons (tVar 0) (tCons (tVar 1) (tCons (tVar 2) tNil)))) tNil)) (gName 3))
    (tSeq (tAsg (tCall spTakeB [] E0 (tCons (tVar 0) (tCons (tVar 1) tNil))) (gName 4))
    (tSeq (tAsg (tOp (rI0 fun i j => .int (i - j)) (tOp (rI0 fun i j => .int (i + j)) (tOp rIx1 (tVar 3) (tVar 4)) (tVar 2)) (tCB rSumA (tCons (tVar 3) tNil))) (gSub (tVar 3) (tVar 4) rSetL))
    (tRet (tCB rTupA (tCons (tVar 3) tNil))))))
def t_lsecond (K : PySem.W.Frag) (Z : Addr) (E : XK) : TS :=
    (tSeq (tAsg (tCall spTakeB [] E0 (tCons (tVar 0) (tCons (tC (.int 12)) tNil))) (gName 2))
    (tSeq (tIfS (tTest (tOp (rI0 fun i j => .bl (decide (i < j))) (tVar 2) (tC (.int 4)))) (tRet (tCall spLodeg [] E0 (tCons (tVar 0) (tCons (tCB rLenA (tCons (tVar 1) tNil)) (tCons (tCB rSumA (tCons (tVar 1) tNil)) tNil))))) tNext)
    (tSeq (tIfS (tTest (tOp (rI0 fun i j => .bl (decide (i < j))) (tVar 2) (tC (.int 6)))) (tSeq (tAsg (tCall spLexp [] E0 (tCons (tVar 0) (tCons (tCB rLenA (tCons (tVar 1) tNil)) (tCons (tOp (rI0 fun i j => .int (i - j)) (tC (.int 16)) (tCB rSumA (tCons (tVar 1) tNil))) tNil)))) (gName 3))
    (tRet (tCB rTupA (tCons (tLc (iRng1 (tCons (tCB rLenA (tCons (tVar 1) tNil)) tNil)) (gName 4) tYes (tOp (rI0 fun i j => .int (i + j)) (tOp rIx1 (tVar 1) (tVar 4)) (tOp rIx1 (tVar 3) (tVar 4))) [4]) tNil)))) tNext)
    (tSeq (tIfS (tTest (tOp rEq (tVar 2) (tC (.int 6)))) (tRet (tCB rTupA (tCons (tCB rListA (tCons (tVar 1) tNil)) tNil))) tNext)
    (tSeq (tIfS (tTest (tOp rEq (tVar 2) (tC (.int 7)))) (tRet (tCB rTupA (tCons (tLc (iTup K (tVar 1)) (gName 5) tYes (tCall spTakeB [] E0 (tCons (tVar 0) (tCons (tOp (rI0 fun i j => .int (i + j)) (tVar 5) (tC (.int 1))) tNil))) [5]) tNil))) tNext)
    (tRet (tCall spLexp [] E0 (tCons (tVar 0) (tCons (tCB rLenA (tCons (tVar 1) tNil)) (tCons (tC (.int 16)) tNil))))))))))
section
variable {K : PySem.W.Frag} {Z : Addr}
theorem pure_lexp (vs : List V) (H : Hp) (Q : VK) (E : XK) (h : spLexp vs H Q E) : t_lexp K Z E { nx := fun _ H' => Q .non H', rt := Q } (start ["pool", "dimension", "high", "left", "found", "k", "cut", "exponent"] vs) H := by
  obtain ⟨P, d, high, B, rfl, hp, th, d1, d3, h0, h16, k⟩ := h
  show t_lexp K Z E _ [some (.ref P), some (.int d), some (.int high), none, none, none, none, none] H
  unfold t_lexp
  rw [x_seq]
  simp only [x_if, x_test, x_B, x_op, x_un, x_varS, x_var0, x_c, x_I0, x_I, x_U, x_bl, x_ret, x_next, x_asg, x_name, x_set0, x_setS, x_drop, x_cb, x_cons, x_nil, x_int1, x_abs1, x_max2, x_gcd, x_gsub, x_sl, x_part, x_nopart, x_int, x_call, x_lst, x_tup, x_not, x_and, x_or, x_andV, x_orV, x_notV, x_ifE, x_eqI, x_neI, x_eqB, x_neB, x_tbm, x_never, x_isN, x_notN, decide_eq_true_eq, Bool.false_eq_true, if_false, if_true, List.append_nil, List.nil_append, List.cons_append]
  rw [x_seq]
  simp only [x_if, x_test, x_B, x_op, x_un, x_varS, x_var0, x_c, x_I0, x_I, x_U, x_bl, x_ret, x_next, x_asg, x_name, x_set0, x_setS, x_drop, x_cb, x_cons, x_nil, x_int1, x_abs1, x_max2, x_gcd, x_gsub, x_sl, x_part, x_nopart, x_int, x_call, x_lst, x_tup, x_not, x_and, x_or, x_andV, x_orV, x_notV, x_ifE, x_eqI, x_neI, x_eqB, x_neB, x_tbm, x_never, x_isN, x_notN, decide_eq_true_eq, Bool.false_eq_true, if_false, if_true, List.append_nil, List.nil_append, List.cons_append]
  refine ⟨by decide, fun F hF => ?_⟩
  rw [x_seq]
  have nF : F ≠ P := fun q => by
    obtain ⟨xs, ho⟩ := hp.there
    rw [q, ho] at hF
    cases hF
  refine for_rngE (j := d) (fun QA => by simp only [x_if, x_test, x_B, x_op, x_un, x_varS, x_var0, x_c, x_I0, x_I, x_U, x_bl, x_ret, x_next, x_asg, x_name, x_set0, x_setS, x_drop, x_cb, x_cons, x_nil, x_int1, x_abs1, x_max2, x_gcd, x_gsub, x_sl, x_part, x_nopart, x_int, x_call, x_lst, x_tup, x_not, x_and, x_or, x_andV, x_orV, x_notV, x_ifE, x_eqI, x_neI, x_eqB, x_neB, x_tbm, x_never, x_isN, x_notN, decide_eq_true_eq, Bool.false_eq_true, if_false, if_true, List.append_nil, List.nil_append, List.cons_append]) (by omega) (fun i σ H' => PoolB (fun b => B b ∨ b = F) H' P ∧ Keep P H H' ∧ There (fun b => B b ∨ b = F) H' ∧ ∃ (zs : List Int) (left : Int) (kk ex : Option V), σ = [some (.ref P), some (.int d), some (.int high), some (.int left), some (.ref F), kk, none, ex] ∧ H' F = some (.lst (zs.map V.int)) ∧ zs.length = i ∧ (∀ x ∈ zs, 0 ≤ x) ∧ zs.sum + left = high ∧ 0 ≤ left)
    ⟨hp.more hF, Keep.of (Same.new hF), th.more hF, [], high, none, none, rfl, upd_same, rfl, by simp, by simp, h0⟩ ?_ ?_
  · rintro i σ H' hi ⟨hpi, ki, thi, zs, left, kk, ex, rfl, hf, hl, hpos, hsum, hleft⟩
    have := sum_nonneg zs hpos
    simp only [x_seq, x_if, x_test, x_B, x_op, x_un, x_varS, x_var0, x_c, x_I0, x_I, x_U, x_bl, x_ret, x_next, x_asg, x_name, x_set0, x_setS, x_drop, x_cb, x_cons, x_nil, x_int1, x_abs1, x_max2, x_gcd, x_gsub, x_sl, x_part, x_nopart, x_int, x_call, x_lst, x_tup, x_not, x_and, x_or, x_andV, x_orV, x_notV, x_ifE, x_eqI, x_neI, x_eqB, x_neB, x_tbm, x_never, x_isN, x_notN, decide_eq_true_eq, Bool.false_eq_true, if_false, if_true, List.append_nil, List.nil_append, List.cons_append]
    refine take_to hpi thi (by omega) (by omega) fun e H2 hp2 k2 e0 e1 => ?_
    have hf2 := k2 _ _ nF hf
    have th2 := thi.keep k2 (pool_some hp2)
    simp only [x_seq, x_if, x_test, x_B, x_op, x_un, x_varS, x_var0, x_c, x_I0, x_I, x_U, x_bl, x_ret, x_next, x_asg, x_name, x_set0, x_setS, x_drop, x_cb, x_cons, x_nil, x_int1, x_abs1, x_max2, x_gcd, x_gsub, x_sl, x_part, x_nopart, x_int, x_call, x_lst, x_tup, x_not, x_and, x_or, x_andV, x_orV, x_notV, x_ifE, x_eqI, x_neI, x_eqB, x_neB, x_tbm, x_never, x_isN, x_notN, decide_eq_true_eq, Bool.false_eq_true, if_false, if_true, List.append_nil, List.nil_append, List.cons_append]
    refine ⟨ty_lst hf2, ?_⟩
    rw [x_append hf2 (by rw [List.length_map]; exact Nat.lt_of_lt_of_le (show zs.length < 1000 by omega) (by decide))]
    refine ⟨hp2.put (.inr rfl) nF, ?_, ?_, zs ++ [e], left - e, _, _, rfl, ?_, ?_, ?_, ?_, ?_⟩
    · intro b o n q
      rw [upd_ne (ne_of_none q hF)]
      exact k2 _ _ n (ki _ _ n q)
    · intro b z
      by_cases q : b = F
      · rw [q]
        exact ⟨_, upd_same⟩
      · rw [upd_ne q]
        exact th2 b z
    · rw [upd_same, List.map_append]; rfl
    · rw [List.length_append, List.length_singleton]; omega
    · intro x hx
      rcases List.mem_append.mp hx with h | h
      · exact hpos x h
      · rw [List.mem_singleton.mp h]; exact e0
    · rw [List.sum_append]
      simp
      omega
    · have := e1 (by omega)
      omega
  · rintro σ H' ⟨hpi, ki, thi, zs, left, kk, ex, rfl, hf, hl, hpos, hsum, hleft⟩
    simp only [x_seq, x_if, x_test, x_B, x_op, x_un, x_varS, x_var0, x_c, x_I0, x_I, x_U, x_bl, x_ret, x_next, x_asg, x_name, x_set0, x_setS, x_drop, x_cb, x_cons, x_nil, x_int1, x_abs1, x_max2, x_gcd, x_gsub, x_sl, x_part, x_nopart, x_int, x_call, x_lst, x_tup, x_not, x_and, x_or, x_andV, x_orV, x_notV, x_ifE, x_eqI, x_neI, x_eqB, x_neB, x_tbm, x_never, x_isN, x_notN, decide_eq_true_eq, Bool.false_eq_true, if_false, if_true, List.append_nil, List.nil_append, List.cons_append]
    refine take_to hpi thi (by omega) (by omega) fun c H2 hp2 k2 c0 c1 => ?_
    have hf2 := k2 _ _ nF hf
    have cl := c1 (by omega)
    obtain ⟨n, rfl⟩ := Int.eq_ofNat_of_zero_le c0
    have hn : n ≤ (zs.map V.int).length := by rw [List.length_map]; omega
    simp only [x_seq, x_if, x_test, x_B, x_op, x_un, x_varS, x_var0, x_c, x_I0, x_I, x_U, x_bl, x_ret, x_next, x_asg, x_name, x_set0, x_setS, x_drop, x_cb, x_cons, x_nil, x_int1, x_abs1, x_max2, x_gcd, x_gsub, x_sl, x_part, x_nopart, x_int, x_call, x_lst, x_tup, x_not, x_and, x_or, x_andV, x_orV, x_notV, x_ifE, x_eqI, x_neI, x_eqB, x_neB, x_tbm, x_never, x_isN, x_notN, decide_eq_true_eq, Bool.false_eq_true, if_false, if_true, List.append_nil, List.nil_append, List.cons_append, x_slA hf2]
    intro q1 hq1
    have hf3 := Same.new (o := .lst (cutV (zs.map V.int) (some (n : Int)) none)) hq1 _ _ hf2
    rw [cut_drop hn] at hf3 ⊢
    have e1 : (upd H2 q1 (.lst ((zs.map V.int).drop n))) q1 = some (.lst ((zs.map V.int).drop n)) := upd_same
    have s1 : Same H2 (upd H2 q1 (.lst ((zs.map V.int).drop n))) := Same.new hq1
    generalize upd H2 q1 (.lst ((zs.map V.int).drop n)) = H3 at hf3 e1 s1 ⊢
    rw [x_slA hf3]
    intro q2 hq2
    rw [cut_take hn]
    have e2 : (upd H3 q2 (.lst ((zs.map V.int).take n))) q2 = some (.lst ((zs.map V.int).take n)) := upd_same
    have s2 : Same H3 (upd H3 q2 (.lst ((zs.map V.int).take n))) := Same.new hq2
    have e3 := s2 _ _ e1
    generalize upd H3 q2 (.lst ((zs.map V.int).take n)) = H4 at e2 s2 e3 ⊢
    rw [x_cat e3 e2 (by rw [List.length_drop, List.length_take, List.length_map]; exact sl5 (by omega))]
    intro q3 hq3
    have e4 : (upd H4 q3 (.lst ((zs.map V.int).drop n ++ (zs.map V.int).take n))) q3 = some (.lst ((zs.map V.int).drop n ++ (zs.map V.int).take n)) := upd_same
    have s4 : Same H2 (upd H4 q3 (.lst ((zs.map V.int).drop n ++ (zs.map V.int).take n))) := Same.new' (s1.trans s2) hq3
    generalize upd H4 q3 (.lst ((zs.map V.int).drop n ++ (zs.map V.int).take n)) = H5 at e4 s4 ⊢
    rw [x_tupL e4]
    intro q5 hq5
    have em : (zs.map V.int).drop n ++ (zs.map V.int).take n = (zs.drop n ++ zs.take n).map V.int := by
      rw [List.map_append, List.map_drop, List.map_take]
    rw [em]
    refine k q5 (zs.drop n ++ zs.take n) _ upd_same ?_ ?_ ⟨?_, fun x hx => hpos x (drop_take_mem hx), ?_⟩
    · exact (hp2.same (Same.new' s4 hq5)).less fun b z => .inl z
    · exact (ki.trans k2).trans (Keep.of (Same.new' s4 hq5))
    · rw [List.length_append, List.length_drop, List.length_take]
      omega
    · rw [drop_take_sum]
      omega
theorem GivesE.after {P : Addr} {B : Addr → Prop} {H H1 : Hp} {d high high' : Int} {Q : VK} (k : GivesE P B H d high Q) (s : Keep P H H1) (l : high' ≤ high) : GivesE P B H1 d high' Q := fun q ns H' a b c e => k q ns H' a b (s.trans c) ⟨e.len, e.pos, by have := e.sum; omega⟩
theorem set_sum : ∀ (l : List Int) (n : Nat) (x y : Int), l[n]? = some x → (l.set n y).sum = l.sum - x + y
  | a :: r, 0, x, y, h => by
    cases h
    show (y :: r).sum = _
    rw [List.sum_cons, List.sum_cons]
    omega
  | a :: r, n + 1, x, y, h => by
    show (a :: r.set n y).sum = _
    rw [List.sum_cons, List.sum_cons, set_sum r n x y h]
    omega
  | [], _, _, _, h => by cases h
theorem ixN_nat {n i : Nat} (h : i < n) : ixN n (i : Int) = some i := by
  unfold ixN
  simp [h]
theorem pure_lodeg (vs : List V) (H : Hp) (Q : VK) (E : XK) (h : spLodeg vs H Q E) : t_lodeg K Z E { nx := fun _ H' => Q .non H', rt := Q } (start ["pool", "dimension", "total", "found", "at"] vs) H := by
  obtain ⟨P, d, total, B, rfl, hp, th, d1, d3, h0, h16, k⟩ := h
  show t_lodeg K Z E _ [some (.ref P), some (.int d), some (.int total), none, none] H
  unfold t_lodeg
  simp only [x_seq, x_if, x_test, x_B, x_op, x_un, x_varS, x_var0, x_c, x_I0, x_I, x_U, x_bl, x_ret, x_next, x_asg, x_name, x_set0, x_setS, x_drop, x_cb, x_cons, x_nil, x_int1, x_abs1, x_max2, x_gcd, x_gsub, x_sl, x_part, x_nopart, x_int, x_call, x_lst, x_tup, x_not, x_and, x_or, x_andV, x_orV, x_notV, x_ifE, x_eqI, x_neI, x_eqB, x_neB, x_tbm, x_never, x_isN, x_notN, decide_eq_true_eq, Bool.false_eq_true, if_false, if_true, List.append_nil, List.nil_append, List.cons_append]
  refine ⟨P, d, total, B, rfl, hp, th, d1, d3, h0, h16, fun q ns H1 hq hp1 k1 ex => ?_⟩
  dsimp only
  rw [x_listT hq]
  intro F hF
  have hf : (upd H1 F (.lst (ns.map V.int))) F = some (.lst (ns.map V.int)) := upd_same
  have hp2 : PoolB (fun b => B b ∨ b = F) (upd H1 F (.lst (ns.map V.int))) P := hp1.more hF
  have th1 := th.keep k1 (pool_some hp1)
  have th2 : There (fun b => B b ∨ b = F) (upd H1 F (.lst (ns.map V.int))) := th1.more hF
  have k2 : Keep P H1 (upd H1 F (.lst (ns.map V.int))) := Keep.of (Same.new hF)
  have nF : F ≠ P := fun q => by
    obtain ⟨xs, ho⟩ := hp1.there
    rw [q, ho] at hF
    cases hF
  generalize (upd H1 F (.lst (ns.map V.int))) = H2 at hf hp2 th2 k2
  refine take_to hp2 th2 (by omega) (by omega) fun c H3 hp3 k3 c0 c1 => ?_
  have hf3 := k3 _ _ nF hf
  have cl := c1 (by omega)
  obtain ⟨n, rfl⟩ := Int.eq_ofNat_of_zero_le c0
  have len := ex.len
  obtain ⟨z, hz⟩ := get_lt (ns := ns) (i := n) (by omega)
  simp only [x_seq, x_if, x_test, x_B, x_op, x_un, x_varS, x_var0, x_c, x_I0, x_I, x_U, x_bl, x_ret, x_next, x_asg, x_name, x_set0, x_setS, x_drop, x_cb, x_cons, x_nil, x_int1, x_abs1, x_max2, x_gcd, x_gsub, x_sl, x_part, x_nopart, x_int, x_call, x_lst, x_tup, x_not, x_and, x_or, x_andV, x_orV, x_notV, x_ifE, x_eqI, x_neI, x_eqB, x_neB, x_tbm, x_never, x_isN, x_notN, decide_eq_true_eq, Bool.false_eq_true, if_false, if_true, List.append_nil, List.nil_append, List.cons_append, x_ix hf3 (atI_map' hz), x_sumL hf3]
  rw [x_setL hf3 (ixN_nat (by rw [List.length_map]; omega))]
  have em : ((ns.map V.int).set n (.int (z + total - ns.sum))) = (ns.set n (z + total - ns.sum)).map V.int := by rw [List.map_set]
  rw [em]
  have e4 : (upd H3 F (.lst ((ns.set n (z + total - ns.sum)).map V.int))) F = some (.lst ((ns.set n (z + total - ns.sum)).map V.int)) := upd_same
  have hp4 : PoolB (fun b => B b ∨ b = F) (upd H3 F (.lst ((ns.set n (z + total - ns.sum)).map V.int))) P := hp3.put (.inr rfl) nF
  have k4 : Keep P H1 (upd H3 F (.lst ((ns.set n (z + total - ns.sum)).map V.int))) := fun b o nb e => by
    rw [upd_ne (ne_of_none e hF)]
    exact k3 _ _ nb (k2 _ _ nb e)
  generalize (upd H3 F (.lst ((ns.set n (z + total - ns.sum)).map V.int))) = H4 at e4 hp4 k4
  rw [x_tupL e4]
  intro q5 hq5
  have pos := ex.pos z (List.mem_of_getElem? hz)
  have sum := ex.sum
  refine k q5 _ _ upd_same ((hp4.same (Same.new hq5)).less fun b z => .inl z) ((k1.trans k4).trans (Keep.of (Same.new hq5))) ⟨?_, fun x hx => ?_, ?_⟩
  · rw [List.length_set]
    exact len
  · rcases List.mem_or_eq_of_mem_set hx with h | h
    · exact ex.pos x h
    · omega
  · rw [set_sum ns n z _ hz]
    omega
theorem lc_pureR {ta : TA} {te : TE} {σ : L2.St} {H : Hp} {Q : VK} {n i : Nat} (f : Nat → V) (hv : ∀ QA : List V → Hp → Prop, ta σ H QA = QA [.int (n : Int)] H) (hl : n < 1000)
    (he : ∀ j (H' : Hp) (QQ : VK), j < n → Same H H' → QQ (f j) H' → te ((wipe σ [i]).set i (some (.int (j : Int)))) H' QQ) (k : ∀ D H', Same H H' → H' D = some (.lst ((List.range n).map f)) → Q (.ref D) H') : tLc (iRng1 ta) (gName i) tYes te [i] σ H Q := by
  show ta σ H _
  rw [hv]
  refine ⟨(n : Int), rfl, by omega, by omega, fun D hD => ?_⟩
  rw [Int.toNat_natCast]
  refine lc_range (lo := 0) (fun j H' => Same H H' ∧ H' D = some (.lst ((List.range j).map f))) ⟨Same.new hD, upd_same⟩ (fun j H' hj s => ?_) fun H' s => k D H' s.1 s.2
  refine ⟨wipe1, ?_⟩
  unfold tYes
  dsimp only
  rw [if_pos rfl, Int.zero_add]
  refine he j H' _ hj s.1 ⟨_, s.2, ?_, ?_, ?_⟩
  · rw [List.length_map, List.length_range]
    exact Nat.lt_of_lt_of_le (show j < 1000 by omega) (by decide)
  · intro b o e
    rw [upd_ne (ne_of_none e hD)]
    exact s.1 _ _ e
  · rw [upd_same, List.range_succ, List.map_append]
    rfl
theorem lc_tupE {tv te : TE} {σ : L2.St} {H : Hp} {Q : VK} {p : Addr} {xs : List V} {i : Nat} (hv : ∀ Q : VK, tv σ H Q = Q (.ref p) H) (h : H p = some (.tup xs)) (Pv : Addr → Nat → Hp → Prop) (h0 : ∀ D, H D = none → Pv D 0 (upd H D (.lst [])))
    (hl : ∀ D j H', H D = none → Pv D j H' → H' p = some (.tup xs)) (hs : ∀ D j x H', H D = none → xs[j]? = some x → Pv D j H' → te ((wipe σ [i]).set i (some x)) H' (fun y H4 => ∃ acc, H4 D = some (.lst acc) ∧ acc.length < sizeLine ∧ Pv D (j + 1) (upd H4 D (.lst (acc ++ [y])))))
    (hd : ∀ D H', H D = none → Pv D xs.length H' → Q (.ref D) H') : tLc (iTup K tv) (gName i) tYes te [i] σ H Q := by
  show tv σ H _
  rw [hv]
  refine ⟨p, rfl, ⟨_, SqT.at h⟩, fun D hD => lc_tup (K := K) (a := p) (xs := xs) (Pv D) (h0 D hD) (fun j H' _ s => SqT.at (hl D j H' hD s)) (fun j x H' hj s => ⟨wipe1, ?_⟩) fun H' s => hd D H' hD s⟩
  unfold tYes
  dsimp only
  rw [if_pos rfl]
  exact hs D j x H' hD hj s
/-- two lists of ints added -/
def adds (ns ms : List Int) : List Int := (List.range ns.length).map fun j => ns.getD j 0 + ms.getD j 0
theorem adds_ok {ns ms : List Int} : ∀ {a b : List Int}, a.length = b.length → (adds a b).sum = a.sum + b.sum ∧ ((∀ x ∈ a, 0 ≤ x) → (∀ x ∈ b, 0 ≤ x) → ∀ x ∈ adds a b, 0 ≤ x)
  | [], [], _ => ⟨rfl, fun _ _ x h => by cases h⟩
  | x :: a, y :: b, h => by
    have ih := adds_ok (ns := ns) (ms := ms) (a := a) (b := b) (by simpa using h)
    have e : adds (x :: a) (y :: b) = (x + y) :: adds a b := by
      unfold adds
      rw [List.length_cons, List.range_succ_eq_map, List.map_cons, List.map_map]
      rfl
    rw [e, List.sum_cons, List.sum_cons, List.sum_cons, ih.1]
    refine ⟨by omega, fun h1 h2 z hz => ?_⟩
    rcases List.mem_cons.mp hz with q | q
    · have := h1 x List.mem_cons_self
      have := h2 y List.mem_cons_self
      omega
    · exact ih.2 (fun w hw => h1 w (List.mem_cons_of_mem _ hw)) (fun w hw => h2 w (List.mem_cons_of_mem _ hw)) z q
theorem adds_len {a b : List Int} : (adds a b).length = a.length := by
  unfold adds
  rw [List.length_map, List.length_range]
theorem pure_lsecond (vs : List V) (H : Hp) (Q : VK) (E : XK) (h : spLsecond vs H Q E) : t_lsecond K Z E { nx := fun _ H' => Q .non H', rt := Q } (start ["pool", "first", "kind", "more", "k", "exponent"] vs) H := by
  obtain ⟨P, p, ns, d, B, rfl, hp, th, hq, ex, d1, d3, k⟩ := h
  show t_lsecond K Z E _ [some (.ref P), some (.ref p), none, none, none, none] H
  unfold t_lsecond
  rw [x_seq]
  simp only [x_if, x_test, x_B, x_op, x_un, x_varS, x_var0, x_c, x_I0, x_I, x_U, x_bl, x_ret, x_next, x_asg, x_name, x_set0, x_setS, x_drop, x_cb, x_cons, x_nil, x_int1, x_abs1, x_max2, x_gcd, x_gsub, x_sl, x_part, x_nopart, x_int, x_call, x_lst, x_tup, x_not, x_and, x_or, x_andV, x_orV, x_notV, x_ifE, x_eqI, x_neI, x_eqB, x_neB, x_tbm, x_never, x_isN, x_notN, decide_eq_true_eq, Bool.false_eq_true, if_false, if_true, List.append_nil, List.nil_append, List.cons_append]
  refine take_to hp th (by decide) (by decide) fun kind H1 hp1 k1 _ _ => ?_
  have hq1 := hq.keep hp k1
  have th1 := th.keep k1 (pool_some hp1)
  have len := ex.len
  have sum := ex.sum
  have s0 := sum_nonneg ns ex.pos
  have k' := k.after k1 (Int.le_refl 16)
  rw [x_seq]
  simp only [x_if, x_test, x_B, x_op, x_un, x_varS, x_var0, x_c, x_I0, x_I, x_U, x_bl, x_ret, x_next, x_asg, x_name, x_set0, x_setS, x_drop, x_cb, x_cons, x_nil, x_int1, x_abs1, x_max2, x_gcd, x_gsub, x_sl, x_part, x_nopart, x_int, x_call, x_lst, x_tup, x_not, x_and, x_or, x_andV, x_orV, x_notV, x_ifE, x_eqI, x_neI, x_eqB, x_neB, x_tbm, x_never, x_isN, x_notN, decide_eq_true_eq, Bool.false_eq_true, if_false, if_true, List.append_nil, List.nil_append, List.cons_append, x_lenT hq1, x_sumT hq1, List.length_map]
  refine ite2 (fun _ => ?_) fun _ => ?_
  · exact ⟨P, d, ns.sum, B, by rw [len], hp1, th1, d1, d3, s0, sum, k'.after (Keep.refl _ _) sum⟩
  rw [x_seq]
  simp only [x_if, x_test, x_B, x_op, x_un, x_varS, x_var0, x_c, x_I0, x_I, x_U, x_bl, x_ret, x_next, x_asg, x_name, x_set0, x_setS, x_drop, x_cb, x_cons, x_nil, x_int1, x_abs1, x_max2, x_gcd, x_gsub, x_sl, x_part, x_nopart, x_int, x_call, x_lst, x_tup, x_not, x_and, x_or, x_andV, x_orV, x_notV, x_ifE, x_eqI, x_neI, x_eqB, x_neB, x_tbm, x_never, x_isN, x_notN, decide_eq_true_eq, Bool.false_eq_true, if_false, if_true, List.append_nil, List.nil_append, List.cons_append, x_lenT hq1, x_sumT hq1, List.length_map]
  refine ite2 (fun _ => ?_) fun _ => ?_
  · rw [x_seq]
    simp only [x_if, x_test, x_B, x_op, x_un, x_varS, x_var0, x_c, x_I0, x_I, x_U, x_bl, x_ret, x_next, x_asg, x_name, x_set0, x_setS, x_drop, x_cb, x_cons, x_nil, x_int1, x_abs1, x_max2, x_gcd, x_gsub, x_sl, x_part, x_nopart, x_int, x_call, x_lst, x_tup, x_not, x_and, x_or, x_andV, x_orV, x_notV, x_ifE, x_eqI, x_neI, x_eqB, x_neB, x_tbm, x_never, x_isN, x_notN, decide_eq_true_eq, Bool.false_eq_true, if_false, if_true, List.append_nil, List.nil_append, List.cons_append, x_lenT hq1, x_sumT hq1, List.length_map]
    refine ⟨P, d, 16 - ns.sum, B, by rw [len], hp1, th1, d1, d3, by omega, by omega, fun q ms H2 hm hp2 k2 ex2 => ?_⟩
    have hq2 := hq1.keep hp1 k2
    have len2 := ex2.len
    refine lc_pureR (n := ns.length) (fun j => V.int (ns.getD j 0 + ms.getD j 0)) (fun QA => by simp only [x_if, x_test, x_B, x_op, x_un, x_varS, x_var0, x_c, x_I0, x_I, x_U, x_bl, x_ret, x_next, x_asg, x_name, x_set0, x_setS, x_drop, x_cb, x_cons, x_nil, x_int1, x_abs1, x_max2, x_gcd, x_gsub, x_sl, x_part, x_nopart, x_int, x_call, x_lst, x_tup, x_not, x_and, x_or, x_andV, x_orV, x_notV, x_ifE, x_eqI, x_neI, x_eqB, x_neB, x_tbm, x_never, x_isN, x_notN, decide_eq_true_eq, Bool.false_eq_true, if_false, if_true, List.append_nil, List.nil_append, List.cons_append, x_lenT hq2, List.length_map]) (by omega) (fun j H' QQ hj s kk => ?_) fun D H' s hD => ?_
    · obtain ⟨z, hz⟩ := get_lt hj
      obtain ⟨u, hu⟩ := get_lt (ns := ms) (i := j) (by omega)
      show tOp _ (tOp rIx1 (tVar 1) (tVar 4)) (tOp rIx1 (tVar 3) (tVar 4)) [some (.ref P), some (.ref p), some (.int kind), some (.ref q), some (.int (j : Int)), none] H' QQ
      simp only [x_if, x_test, x_B, x_op, x_un, x_varS, x_var0, x_c, x_I0, x_I, x_U, x_bl, x_ret, x_next, x_asg, x_name, x_set0, x_setS, x_drop, x_cb, x_cons, x_nil, x_int1, x_abs1, x_max2, x_gcd, x_gsub, x_sl, x_part, x_nopart, x_int, x_call, x_lst, x_tup, x_not, x_and, x_or, x_andV, x_orV, x_notV, x_ifE, x_eqI, x_neI, x_eqB, x_neB, x_tbm, x_never, x_isN, x_notN, decide_eq_true_eq, Bool.false_eq_true, if_false, if_true, List.append_nil, List.nil_append, List.cons_append, x_ixT (s _ _ hq2) (atI_map' hz), x_ixT (s _ _ hm) (atI_map' hu)]
      have e1 : ns.getD j 0 = z := by rw [List.getD_eq_getElem?_getD, hz]; rfl
      have e2 : ms.getD j 0 = u := by rw [List.getD_eq_getElem?_getD, hu]; rfl
      rw [e1, e2] at kk
      exact kk
    · rw [x_tupL hD]
      intro q5 hq5
      have e : (List.range ns.length).map (fun j => V.int (ns.getD j 0 + ms.getD j 0)) = (adds ns ms).map V.int := by
        unfold adds
        rw [List.map_map]
        rfl
      rw [e]
      obtain ⟨a1, a2⟩ := adds_ok (ns := ns) (ms := ms) (a := ns) (b := ms) (by omega)
      have := ex2.sum
      exact k' q5 (adds ns ms) _ upd_same (hp2.same (Same.new' s hq5)) (k2.trans (Keep.of (Same.new' s hq5))) ⟨by rw [adds_len]; exact len, a2 ex.pos ex2.pos, by rw [a1]; omega⟩
  rw [x_seq]
  simp only [x_if, x_test, x_B, x_op, x_un, x_varS, x_var0, x_c, x_I0, x_I, x_U, x_bl, x_ret, x_next, x_asg, x_name, x_set0, x_setS, x_drop, x_cb, x_cons, x_nil, x_int1, x_abs1, x_max2, x_gcd, x_gsub, x_sl, x_part, x_nopart, x_int, x_call, x_lst, x_tup, x_not, x_and, x_or, x_andV, x_orV, x_notV, x_ifE, x_eqI, x_neI, x_eqB, x_neB, x_tbm, x_never, x_isN, x_notN, decide_eq_true_eq, Bool.false_eq_true, if_false, if_true, List.append_nil, List.nil_append, List.cons_append]
  refine ite2 (fun _ => ?_) fun _ => ?_
  · rw [x_listT hq1]
    intro l hl
    rw [x_tupL upd_same]
    intro q5 hq5
    exact k' q5 ns _ upd_same (hp1.same (Same.new' (Same.new hl) hq5)) (Keep.of (Same.new' (Same.new hl) hq5)) ex
  rw [x_seq, x_if]
  simp only [x_test, x_op, x_varS, x_var0, x_c, x_eqI, x_bl, decide_eq_true_eq]
  refine ite2 (fun _ => ?_) fun _ => ?_
  · rw [x_ret, x_cb, x_cons]
    -- each exponent drawn below the first's
    refine lc_tupE (fun Q => by simp only [x_if, x_test, x_B, x_op, x_un, x_varS, x_var0, x_c, x_I0, x_I, x_U, x_bl, x_ret, x_next, x_asg, x_name, x_set0, x_setS, x_drop, x_cb, x_cons, x_nil, x_int1, x_abs1, x_max2, x_gcd, x_gsub, x_sl, x_part, x_nopart, x_int, x_call, x_lst, x_tup, x_not, x_and, x_or, x_andV, x_orV, x_notV, x_ifE, x_eqI, x_neI, x_eqB, x_neB, x_tbm, x_never, x_isN, x_notN, decide_eq_true_eq, Bool.false_eq_true, if_false, if_true, List.append_nil, List.nil_append, List.cons_append]) hq1 (fun D j H' => PoolB (fun b => B b ∨ b = D) H' P ∧ There (fun b => B b ∨ b = D) H' ∧ Keep P H1 H' ∧ ∃ zs : List Int, H' D = some (.lst (zs.map V.int)) ∧ zs.length = j ∧ (∀ x ∈ zs, 0 ≤ x) ∧ zs.sum ≤ (ns.take j).sum)
      (fun D hD => ⟨hp1.more hD, th1.more hD, Keep.of (Same.new hD), [], upd_same, rfl, by simp, by simp⟩) (fun D j H' hD s => hq1.keep hp1 s.2.2.1) (fun D j x H' hD hj s => ?_) fun D H' hD s => ?_
    · obtain ⟨hpj, thj, kj, zs, hd, hl, hpos, hsum⟩ := s
      obtain ⟨z, hz, rfl⟩ := int_at hj
      have pz := ex.pos z (List.mem_of_getElem? hz)
      have zb : z ≤ 16 := by
        have e := List.take_append_drop (j + 1) ns
        have e2 : ns.sum = (ns.take (j + 1)).sum + (ns.drop (j + 1)).sum := by rw [← List.sum_append, List.take_append_drop]
        have e3 := sum_nonneg (ns.drop (j + 1)) fun x hx => ex.pos x (List.mem_of_mem_drop hx)
        have e4 := sum_nonneg (ns.take j) fun x hx => ex.pos x (List.mem_of_mem_take hx)
        rw [take_next hz, List.sum_append, List.sum_singleton] at e2
        omega
      show tCall spTakeB [] E0 _ [some (.ref P), some (.ref p), some (.int kind), none, none, some (.int z)] H' _
      simp only [x_if, x_test, x_B, x_op, x_un, x_varS, x_var0, x_c, x_I0, x_I, x_U, x_bl, x_ret, x_next, x_asg, x_name, x_set0, x_setS, x_drop, x_cb, x_cons, x_nil, x_int1, x_abs1, x_max2, x_gcd, x_gsub, x_sl, x_part, x_nopart, x_int, x_call, x_lst, x_tup, x_not, x_and, x_or, x_andV, x_orV, x_notV, x_ifE, x_eqI, x_neI, x_eqB, x_neB, x_tbm, x_never, x_isN, x_notN, decide_eq_true_eq, Bool.false_eq_true, if_false, if_true, List.append_nil, List.nil_append, List.cons_append]
      have nD : D ≠ P := fun q => by
        obtain ⟨xs, ho⟩ := hp1.there
        rw [q, ho] at hD
        cases hD
      refine take_to hpj thj (by omega) (by omega) fun e H2 hp2 k2 e0 e1 => ?_
      have hd2 := k2 _ _ nD hd
      have th2 := thj.keep k2 (pool_some hp2)
      have hlt := (List.getElem?_eq_some_iff.mp hz).1
      refine ⟨_, hd2, by rw [List.length_map]; exact Nat.lt_of_lt_of_le (show zs.length < 1000 by omega) (by decide), hp2.put (.inr rfl) nD, ?_, ?_, zs ++ [e], ?_, ?_, ?_, ?_⟩
      · intro b w
        by_cases q : b = D
        · rw [q]
          exact ⟨_, upd_same⟩
        · rw [upd_ne q]
          exact th2 b w
      · intro b o n q
        rw [upd_ne (ne_of_none q hD)]
        exact k2 _ _ n (kj _ _ n q)
      · rw [upd_same, List.map_append]; rfl
      · rw [List.length_append, List.length_singleton]; omega
      · intro x hx
        rcases List.mem_append.mp hx with h | h
        · exact hpos x h
        · rw [List.mem_singleton.mp h]; exact e0
      · rw [List.sum_append, List.sum_singleton, take_next hz, List.sum_append, List.sum_singleton]
        have := e1 (by omega)
        omega
    · obtain ⟨hpj, thj, kj, zs, hd, hl, hpos, hsum⟩ := s
      rw [x_nil, x_tupL hd]
      intro q5 hq5
      rw [List.length_map] at hl hsum
      rw [List.take_length] at hsum
      exact k' q5 zs _ upd_same ((hpj.same (Same.new hq5)).less fun b z => .inl z) (kj.trans (Keep.of (Same.new hq5))) ⟨by omega, hpos, by omega⟩
  · simp only [x_if, x_test, x_B, x_op, x_un, x_varS, x_var0, x_c, x_I0, x_I, x_U, x_bl, x_ret, x_next, x_asg, x_name, x_set0, x_setS, x_drop, x_cb, x_cons, x_nil, x_int1, x_abs1, x_max2, x_gcd, x_gsub, x_sl, x_part, x_nopart, x_int, x_call, x_lst, x_tup, x_not, x_and, x_or, x_andV, x_orV, x_notV, x_ifE, x_eqI, x_neI, x_eqB, x_neB, x_tbm, x_never, x_isN, x_notN, decide_eq_true_eq, Bool.false_eq_true, if_false, if_true, List.append_nil, List.nil_append, List.cons_append, x_lenT hq1, List.length_map]
    exact ⟨P, d, 16, B, by rw [len], hp1, th1, d1, d3, by decide, by decide, k'⟩
end
end SpX

set_option Elab.async false
set_option linter.all false
set_option maxRecDepth 100000
set_option maxHeartbeats 2000000
namespace SpX
open PySem PySem.Spec L2 StX RZ
theorem at0 {v w : V} : atI [v, w] 0 = some v := rfl
theorem at1 {v w : V} : atI [v, w] 1 = some w := rfl
/-- a list of exponents lies there -/
def ListedAt (H : Hp) (p : Addr) (nss : List (List Int)) : Prop := ∃ ps : List Addr, H p = some (.lst (ps.map V.ref)) ∧ ps.length = nss.length ∧ ∀ (i : Nat) (q : Addr) (ns : List Int), ps[i]? = some q → nss[i]? = some ns → ExpAt H q ns
/-- all of one dimension, in order, of degrees between two -/
structure InOrder (nss : List (List Int)) (d low high : Int) : Prop where
  len : ∀ ns ∈ nss, (ns.length : Int) = d
  pos : ∀ ns ∈ nss, ∀ x ∈ ns, 0 ≤ x
  low : ∀ ns ∈ nss, low ≤ ns.sum
  high : ∀ ns ∈ nss, ns.sum ≤ high
  ord : ∀ (i : Nat) (ns ms : List Int), nss[i]? = some ns → nss[i + 1]? = some ms → HT.lexLt (plc ns) (plc ms) = true
def spListed : Sp := fun vs H Q _ => ∃ (p : Addr) (nss : List (List Int)) (d low high : Int), vs = [.ref p, .int d, .int low, .int high, .int nss.length] ∧ ListedAt H p nss ∧ InOrder nss d low high ∧ d ≤ 3 ∧ Q (.bl true) H
def spRelations : Sp := fun vs H Q _ => ∃ (p q : Addr) (ns ms : List Int), vs = [.ref p, .ref q] ∧ ExpAt H p ns ∧ ExpAt H q ms ∧ Pair ns ms ∧ (∀ x ∈ ns, 0 ≤ x ∧ x ≤ 20) ∧ (∀ x ∈ ms, 0 ≤ x ∧ x ≤ 20) ∧ ∀ H', Same H H' → Q (.bl true) H'
def t_listed (K : PySem.W.Frag) (Z : Addr) (E : XK) : TS :=
    (tSeq (tIfS (tOr (tNot (tB (tCB rIsB (tCons (tVar 0) (tCons (tC (.ty "list")) tNil))))) (tTest (tOp rNe (tCB rLenA (tCons (tVar 0) tNil)) (tVar 4)))) (tRet (tC (.bl false))) tNext)
    (tSeq (tAsg (tC .non) (gName 5))
    (tSeq (tFor (iList K (tVar 0)) (gName 6) ((tSeq (tIfS (tOr (tNot (tB (tCB rIsB (tCons (tVar 6) (tCons (tC (.ty "tuple")) tNil))))) (tTest (tOp rNe (tCB rLenA (tCons (tVar 6) tNil)) (tVar 1)))) (tRet (tC (.bl false))) tNext)
    (tSeq (tFor (iTup K (tVar 6)) (gName 7) ((tIfS (tOr (tNot (tB (tCall spInteger [] E0 (tCons (tVar 7) tNil)))) (tTest (tOp (rI0 fun i j => .bl (decide (i < j))) (tVar 7) (tC (.int 0))))) (tRet (tC (.bl false))) tNext)))
    (tSeq (tIfS (tOr (tTest (tOp (rI0 fun i j => .bl (decide (i < j))) (tCB rSumA (tCons (tVar 6) tNil)) (tVar 2))) (tTest (tOp (rI0 fun i j => .bl (decide (j < i))) (tCB rSumA (tCons (tVar 6) tNil)) (tVar 3)))) (tRet (tC (.bl false))) tNext)
    (tSeq (tIfS (tAnd (tB (tNotN (tVar 5))) (tNot (tB (tCall spLbefore [] E0 (tCons (tVar 5) (tCons (tVar 6) tNil)))))) (tRet (tC (.bl false))) tNext)
    (tAsg (tVar 6) (gName 5))))))))
    (tRet (tC (.bl true))))))
def t_relations (K : PySem.W.Frag) (Z : Addr) (E : XK) : TS :=
    (tSeq (tFor (iList K (tLst (tCons (tTup (tCons (tVar 0) (tCons (tVar 1) tNil))) (tCons (tTup (tCons (tVar 1) (tCons (tVar 0) tNil))) (tCons (tTup (tCons (tVar 0) (tCons (tVar 0) tNil))) (tCons (tTup (tCons (tVar 1) (tCons (tVar 1) tNil))) tNil)))))) (gName 2) ((tSeq (tIfS (tNot (tB (tCall spSays [] E0 (tCons (tCall (spBefore Z) [] E0 (tCons (tOp rIx1 (tVar 2) (tC (.int 0))) (tCons (tOp rIx1 (tVar 2) (tC (.int 1))) tNil))) (tCons (tCall spLbefore [] E0 (tCons (tOp rIx1 (tVar 2) (tC (.int 0))) (tCons (tOp rIx1 (tVar 2) (tC (.int 1))) tNil))) tNil))))) (tRet (tC (.bl false))) tNext)
    (tSeq (tIfS (tNot (tB (tCall spSays [] E0 (tCons (tCall (spDivides Z) [] E0 (tCons (tOp rIx1 (tVar 2) (tC (.int 0))) (tCons (tOp rIx1 (tVar 2) (tC (.int 1))) tNil))) (tCons (tCall spLwithin [] E0 (tCons (tOp rIx1 (tVar 2) (tC (.int 0))) (tCons (tOp rIx1 (tVar 2) (tC (.int 1))) tNil))) tNil))))) (tRet (tC (.bl false))) tNext)
    (tSeq (tAsg (tCall (spMfac Z) [] E0 (tCons (tOp rIx1 (tVar 2) (tC (.int 0))) tNil)) (gName 3))
    (tIfS (tOr (tNot (tB (tCall spInteger [] E0 (tCons (tVar 3) tNil)))) (tTest (tOp rNe (tVar 3) (tCall spLfac [] E0 (tCons (tOp rIx1 (tVar 2) (tC (.int 0))) tNil))))) (tRet (tC (.bl false))) tNext))))))
    (tRet (tC (.bl true))))
section
variable {K : PySem.W.Frag} {Z : Addr}
theorem ref_at {ps : List Addr} {j : Nat} {x : V} (h : (ps.map V.ref)[j]? = some x) : ∃ q, ps[j]? = some q ∧ x = .ref q := by
  rw [List.getElem?_map] at h
  cases e : ps[j]? with
  | none => rw [e] at h; cases h
  | some z => rw [e] at h; exact ⟨z, rfl, (Option.some.inj h).symm⟩
theorem pure_listed (vs : List V) (H : Hp) (Q : VK) (E : XK) (h : spListed vs H Q E) : t_listed K Z E { nx := fun _ H' => Q .non H', rt := Q } (start ["told", "dimension", "low", "high", "many", "before", "exponents", "exponent"] vs) H := by
  obtain ⟨p, nss, d, low, high, rfl, ⟨ps, hp, hl, hat⟩, O, d3, k⟩ := h
  show t_listed K Z E _ [some (.ref p), some (.int d), some (.int low), some (.int high), some (.int nss.length), none, none, none] H
  unfold t_listed
  rw [x_seq]
  simp only [x_if, x_test, x_B, x_op, x_un, x_varS, x_var0, x_c, x_I0, x_I, x_U, x_bl, x_ret, x_next, x_asg, x_name, x_set0, x_setS, x_drop, x_cb, x_cons, x_nil, x_int1, x_abs1, x_max2, x_gcd, x_gsub, x_sl, x_part, x_nopart, x_int, x_call, x_lst, x_tup, x_not, x_and, x_or, x_andV, x_orV, x_notV, x_ifE, x_eqI, x_neI, x_eqB, x_neB, x_tbm, x_never, x_isN, x_notN, decide_eq_true_eq, Bool.false_eq_true, if_false, if_true, List.append_nil, List.nil_append, List.cons_append, x_isLL hp, x_lenA hp, List.length_map, hl, Bool.not_true, ne_eq, not_true, decide_false]
  rw [x_seq]
  simp only [x_if, x_test, x_B, x_op, x_un, x_varS, x_var0, x_c, x_I0, x_I, x_U, x_bl, x_ret, x_next, x_asg, x_name, x_set0, x_setS, x_drop, x_cb, x_cons, x_nil, x_int1, x_abs1, x_max2, x_gcd, x_gsub, x_sl, x_part, x_nopart, x_int, x_call, x_lst, x_tup, x_not, x_and, x_or, x_andV, x_orV, x_notV, x_ifE, x_eqI, x_neI, x_eqB, x_neB, x_tbm, x_never, x_isN, x_notN, decide_eq_true_eq, Bool.false_eq_true, if_false, if_true, List.append_nil, List.nil_append, List.cons_append]
  rw [x_seq]
  refine for_lstE (xs := ps.map V.ref) (fun Q => by simp only [x_if, x_test, x_B, x_op, x_un, x_varS, x_var0, x_c, x_I0, x_I, x_U, x_bl, x_ret, x_next, x_asg, x_name, x_set0, x_setS, x_drop, x_cb, x_cons, x_nil, x_int1, x_abs1, x_max2, x_gcd, x_gsub, x_sl, x_part, x_nopart, x_int, x_call, x_lst, x_tup, x_not, x_and, x_or, x_andV, x_orV, x_notV, x_ifE, x_eqI, x_neI, x_eqB, x_neB, x_tbm, x_never, x_isN, x_notN, decide_eq_true_eq, Bool.false_eq_true, if_false, if_true, List.append_nil, List.nil_append, List.cons_append]) (fun i σ H' => H' = H ∧ ∃ (w : V) (a b : Option V), σ = [some (.ref p), some (.int d), some (.int low), some (.int high), some (.int nss.length), some w, a, b] ∧ ((i = 0 ∧ w = .non) ∨ ∃ j q, i = j + 1 ∧ ps[j]? = some q ∧ w = .ref q)) ⟨rfl, _, _, _, rfl, .inl ⟨rfl, rfl⟩⟩ (fun i σ H' _ z => z.1 ▸ hp) ?_ ?_
  · rintro i y σ H' hi ⟨rfl, w, a, b, rfl, hw⟩
    obtain ⟨q, hq, rfl⟩ := ref_at hi
    have li := (List.getElem?_eq_some_iff.mp hq).1
    have hns : nss[i]? = some (nss[i]'(by omega)) := List.getElem?_eq_getElem (by omega)
    generalize nss[i]'(by omega) = ns at hns
    have mem := List.mem_of_getElem? hns
    have he := hat i q ns hq hns
    have len := O.len ns mem
    have lo := O.low ns mem
    have hi' := O.high ns mem
    simp only [x_name, x_setS, x_set0]
    rw [x_seq]
    simp only [x_if, x_test, x_B, x_op, x_un, x_varS, x_var0, x_c, x_I0, x_I, x_U, x_bl, x_ret, x_next, x_asg, x_name, x_set0, x_setS, x_drop, x_cb, x_cons, x_nil, x_int1, x_abs1, x_max2, x_gcd, x_gsub, x_sl, x_part, x_nopart, x_int, x_call, x_lst, x_tup, x_not, x_and, x_or, x_andV, x_orV, x_notV, x_ifE, x_eqI, x_neI, x_eqB, x_neB, x_tbm, x_never, x_isN, x_notN, decide_eq_true_eq, Bool.false_eq_true, if_false, if_true, List.append_nil, List.nil_append, List.cons_append, x_isTT he, x_lenT he, List.length_map, len, Bool.not_true, ne_eq, not_true, decide_false]
    rw [x_seq]
    refine for_tupE (xs := ns.map V.int) (fun Q => by simp only [x_if, x_test, x_B, x_op, x_un, x_varS, x_var0, x_c, x_I0, x_I, x_U, x_bl, x_ret, x_next, x_asg, x_name, x_set0, x_setS, x_drop, x_cb, x_cons, x_nil, x_int1, x_abs1, x_max2, x_gcd, x_gsub, x_sl, x_part, x_nopart, x_int, x_call, x_lst, x_tup, x_not, x_and, x_or, x_andV, x_orV, x_notV, x_ifE, x_eqI, x_neI, x_eqB, x_neB, x_tbm, x_never, x_isN, x_notN, decide_eq_true_eq, Bool.false_eq_true, if_false, if_true, List.append_nil, List.nil_append, List.cons_append]) (fun n σ H2 => H2 = H' ∧ ∃ b : Option V, σ = [some (.ref p), some (.int d), some (.int low), some (.int high), some (.int nss.length), some w, some (.ref q), b]) ⟨rfl, b, rfl⟩ (fun n σ H2 _ z => z.1 ▸ he) ?_ ?_
    · rintro n y σ H2 hn ⟨rfl, b, rfl⟩
      obtain ⟨z, hz, rfl⟩ := int_at hn
      have pz := O.pos ns mem z (List.mem_of_getElem? hz)
      simp only [x_if, x_test, x_B, x_op, x_un, x_varS, x_var0, x_c, x_I0, x_I, x_U, x_bl, x_ret, x_next, x_asg, x_name, x_set0, x_setS, x_drop, x_cb, x_cons, x_nil, x_int1, x_abs1, x_max2, x_gcd, x_gsub, x_sl, x_part, x_nopart, x_int, x_call, x_lst, x_tup, x_not, x_and, x_or, x_andV, x_orV, x_notV, x_ifE, x_eqI, x_neI, x_eqB, x_neB, x_tbm, x_never, x_isN, x_notN, decide_eq_true_eq, Bool.false_eq_true, if_false, if_true, List.append_nil, List.nil_append, List.cons_append]
      refine ⟨z, rfl, ?_⟩
      refine ⟨true, rfl, ?_⟩
      rw [if_neg (by decide), if_neg (by omega)]
      exact ⟨rfl, _, rfl⟩
    · rintro σ H2 ⟨rfl, b, rfl⟩
      dsimp only
      rw [x_seq]
      simp only [x_if, x_test, x_B, x_op, x_un, x_varS, x_var0, x_c, x_I0, x_I, x_U, x_bl, x_ret, x_next, x_asg, x_name, x_set0, x_setS, x_drop, x_cb, x_cons, x_nil, x_int1, x_abs1, x_max2, x_gcd, x_gsub, x_sl, x_part, x_nopart, x_int, x_call, x_lst, x_tup, x_not, x_and, x_or, x_andV, x_orV, x_notV, x_ifE, x_eqI, x_neI, x_eqB, x_neB, x_tbm, x_never, x_isN, x_notN, decide_eq_true_eq, Bool.false_eq_true, if_false, if_true, List.append_nil, List.nil_append, List.cons_append, x_sumT he]
      rw [if_neg (by omega), if_neg (by omega)]
      rw [x_seq]
      rcases hw with ⟨rfl, rfl⟩ | ⟨j, r, rfl, hr, rfl⟩
      · simp only [x_if, x_test, x_B, x_op, x_un, x_varS, x_var0, x_c, x_I0, x_I, x_U, x_bl, x_ret, x_next, x_asg, x_name, x_set0, x_setS, x_drop, x_cb, x_cons, x_nil, x_int1, x_abs1, x_max2, x_gcd, x_gsub, x_sl, x_part, x_nopart, x_int, x_call, x_lst, x_tup, x_not, x_and, x_or, x_andV, x_orV, x_notV, x_ifE, x_eqI, x_neI, x_eqB, x_neB, x_tbm, x_never, x_isN, x_notN, decide_eq_true_eq, Bool.false_eq_true, if_false, if_true, List.append_nil, List.nil_append, List.cons_append]
        exact ⟨trivial, _, _, _, rfl, .inr ⟨0, q, rfl, hq, rfl⟩⟩
      · have lj := (List.getElem?_eq_some_iff.mp hr).1
        have hms : nss[j]? = some (nss[j]'(by omega)) := List.getElem?_eq_getElem (by omega)
        generalize nss[j]'(by omega) = ms at hms
        have memm := List.mem_of_getElem? hms
        have hm := hat j r ms hr hms
        have lenm := O.len ms memm
        simp only [x_if, x_test, x_B, x_op, x_un, x_varS, x_var0, x_c, x_I0, x_I, x_U, x_bl, x_ret, x_next, x_asg, x_name, x_set0, x_setS, x_drop, x_cb, x_cons, x_nil, x_int1, x_abs1, x_max2, x_gcd, x_gsub, x_sl, x_part, x_nopart, x_int, x_call, x_lst, x_tup, x_not, x_and, x_or, x_andV, x_orV, x_notV, x_ifE, x_eqI, x_neI, x_eqB, x_neB, x_tbm, x_never, x_isN, x_notN, decide_eq_true_eq, Bool.false_eq_true, if_false, if_true, List.append_nil, List.nil_append, List.cons_append]
        refine ⟨r, q, ms, ns, rfl, hm, he, by omega, by omega, ?_⟩
        rw [O.ord j ms ns hms hns]
        exact ⟨true, rfl, rfl, _, _, _, rfl, .inr ⟨j + 1, q, rfl, hq, rfl⟩⟩
  · rintro σ H' ⟨rfl, w, a, b, rfl, hw⟩
    simp only [x_if, x_test, x_B, x_op, x_un, x_varS, x_var0, x_c, x_I0, x_I, x_U, x_bl, x_ret, x_next, x_asg, x_name, x_set0, x_setS, x_drop, x_cb, x_cons, x_nil, x_int1, x_abs1, x_max2, x_gcd, x_gsub, x_sl, x_part, x_nopart, x_int, x_call, x_lst, x_tup, x_not, x_and, x_or, x_andV, x_orV, x_notV, x_ifE, x_eqI, x_neI, x_eqB, x_neB, x_tbm, x_never, x_isN, x_notN, decide_eq_true_eq, Bool.false_eq_true, if_false, if_true, List.append_nil, List.nil_append, List.cons_append]
    exact k
/-- the loop of a for over what a list at a hands out -/
def LoopL (K : PySem.W.Frag) (a : Addr) (g : TG) (tb : TS) : TS := fun D σ H => tFor (iList K (tC (.ref a))) g tb D σ H
theorem x_forL {te : TE} {g : TG} {tb : TS} {D : Ends} {σ : L2.St} {H : Hp} (h : te σ H fun x H1 => ∃ a, x = .ref a ∧ LoopL K a g tb D σ H1) : tFor (iList K te) g tb D σ H := by
  show te σ H _
  have e : (fun x H1 => ∃ a, x = V.ref a ∧ LoopL K a g tb D σ H1) = (fun x H1 => ∃ a, x = V.ref a ∧ (∃ xs, SqL K H1 a xs) ∧ ∃ W : Nat → Nat → L2.St → Hp → Prop, (∃ m, W 0 m σ H1) ∧ ∀ i m σ H, W i m σ H →
      ((Itl K a).stop i H ∧ D.nx σ H) ∨ ((Itl K a).go i H ∧ ∃ N : L2.St → Hp → Prop, (∀ σ' H', N σ' H' → ∃ m', m' < m ∧ W (i + 1) m' σ' H') ∧ ∀ x H', (Itl K a).yld i H x H' → g x σ H' fun σ2 H2 => tb { D with nx := N, ct := N, bk := D.nx } σ2 H2)) := by
    funext x H1
    refine propext ⟨fun ⟨a, e, z⟩ => ?_, fun ⟨a, e, z⟩ => ⟨a, e, a, rfl, z⟩⟩
    obtain ⟨a', e', z⟩ := z
    injection e' with e'
    subst e'
    exact ⟨a, e, z⟩
  rw [e] at h
  exact h
theorem pure_relations (vs : List V) (H : Hp) (Q : VK) (E : XK) (h : spRelations vs H Q E) : t_relations K Z E { nx := fun _ H' => Q .non H', rt := Q } (start ["first", "second", "pair", "told"] vs) H := by
  obtain ⟨p, q, ns, ms, rfl, hp, hq, ok, sn, sm, k⟩ := h
  show t_relations K Z E _ [some (.ref p), some (.ref q), none, none] H
  unfold t_relations
  rw [x_seq]
  refine x_forL ?_
  simp only [x_if, x_test, x_B, x_op, x_un, x_varS, x_var0, x_c, x_I0, x_I, x_U, x_bl, x_ret, x_next, x_asg, x_name, x_set0, x_setS, x_drop, x_cb, x_cons, x_nil, x_int1, x_abs1, x_max2, x_gcd, x_gsub, x_sl, x_part, x_nopart, x_int, x_call, x_lst, x_tup, x_not, x_and, x_or, x_andV, x_orV, x_notV, x_ifE, x_eqI, x_neI, x_eqB, x_neB, x_tbm, x_never, x_isN, x_notN, decide_eq_true_eq, Bool.false_eq_true, if_false, if_true, List.append_nil, List.nil_append, List.cons_append]
  refine ⟨sl5 (by simp), fun T1 h1 => ⟨sl5 (by simp), fun T2 h2 => ⟨sl5 (by simp), fun T3 h3 => ⟨sl5 (by simp), fun T4 h4 => ⟨sl5 (by simp), fun L hL => ⟨L, rfl, ?_⟩⟩⟩⟩⟩⟩
  have ok2 : Pair ms ns := by unfold Pair at ok ⊢; omega
  have ok3 : Pair ns ns := by unfold Pair at ok ⊢; omega
  have ok4 : Pair ms ms := by unfold Pair at ok ⊢; omega
  have s4 : Same H (upd (upd (upd (upd H T1 (.tup [.ref p, .ref q])) T2 (.tup [.ref q, .ref p])) T3 (.tup [.ref p, .ref p])) T4 (.tup [.ref q, .ref q])) := Same.new' (Same.new' (Same.new' (Same.new h1) h2) h3) h4
  have e4 : (upd (upd (upd (upd H T1 (.tup [.ref p, .ref q])) T2 (.tup [.ref q, .ref p])) T3 (.tup [.ref p, .ref p])) T4 (.tup [.ref q, .ref q])) T4 = some (.tup [.ref q, .ref q]) := upd_same
  have e3 := Same.new (o := .tup [.ref q, .ref q]) h4 _ _ (show (upd (upd (upd H T1 (.tup [.ref p, .ref q])) T2 (.tup [.ref q, .ref p])) T3 (.tup [.ref p, .ref p])) T3 = some (.tup [.ref p, .ref p]) from upd_same)
  have e2 := Same.new' (o := .tup [.ref q, .ref q]) (Same.new (o := .tup [.ref p, .ref p]) h3) h4 _ _ (show (upd (upd H T1 (.tup [.ref p, .ref q])) T2 (.tup [.ref q, .ref p])) T2 = some (.tup [.ref q, .ref p]) from upd_same)
  have e1 := Same.new' (o := .tup [.ref q, .ref q]) (Same.new' (o := .tup [.ref p, .ref p]) (Same.new (o := .tup [.ref q, .ref p]) h2) h3) h4 _ _ (show (upd H T1 (.tup [.ref p, .ref q])) T1 = some (.tup [.ref p, .ref q]) from upd_same)
  generalize (upd (upd (upd (upd H T1 (.tup [.ref p, .ref q])) T2 (.tup [.ref q, .ref p])) T3 (.tup [.ref p, .ref p])) T4 (.tup [.ref q, .ref q])) = H4 at s4 e4 e3 e2 e1 hL ⊢
  have s5 : Same H4 (upd H4 L (.lst [.ref T1, .ref T2, .ref T3, .ref T4])) := Same.new hL
  have eL : (upd H4 L (.lst [.ref T1, .ref T2, .ref T3, .ref T4])) L = some (.lst [.ref T1, .ref T2, .ref T3, .ref T4]) := upd_same
  generalize upd H4 L (.lst [.ref T1, .ref T2, .ref T3, .ref T4]) = H5 at s5 eL ⊢
  have s := s4.trans s5
  have all : ∀ (i : Nat) (x : V), [V.ref T1, .ref T2, .ref T3, .ref T4][i]? = some x → ∃ (T a b : Addr) (as bs : List Int), x = .ref T ∧ H5 T = some (.tup [.ref a, .ref b]) ∧ ExpAt H5 a as ∧ ExpAt H5 b bs ∧ Pair as bs ∧ ∀ x ∈ as, 0 ≤ x ∧ x ≤ 20 := by
    have p5 : ExpAt H5 p ns := s _ _ hp
    have q5 : ExpAt H5 q ms := s _ _ hq
    rintro (_ | _ | _ | _ | i) x hx
    · cases hx; exact ⟨T1, p, q, ns, ms, rfl, s5 _ _ e1, p5, q5, ok, sn⟩
    · cases hx; exact ⟨T2, q, p, ms, ns, rfl, s5 _ _ e2, q5, p5, ok2, sm⟩
    · cases hx; exact ⟨T3, p, p, ns, ns, rfl, s5 _ _ e3, p5, p5, ok3, sn⟩
    · cases hx; exact ⟨T4, q, q, ms, ms, rfl, s5 _ _ e4, q5, q5, ok4, sm⟩
    · cases hx
  refine for_lstE (K := K) (xs := [.ref T1, .ref T2, .ref T3, .ref T4]) (fun Q => rfl) (fun i σ H' => Same H5 H' ∧ ∃ a b : Option V, σ = [some (.ref p), some (.ref q), a, b]) ⟨Same.refl _, _, _, rfl⟩ (fun i σ H' _ z => z.1 _ _ eL) ?_ ?_
  · rintro i y σ H' hi ⟨si, w1, w2, rfl⟩
    obtain ⟨T, a, b, as, bs, rfl, hT, ha, hb, okk, sma⟩ := all i y hi
    have okk' := okk
    unfold Pair at okk'
    simp only [x_name, x_setS, x_set0]
    rw [x_seq]
    simp only [x_if, x_test, x_B, x_op, x_un, x_varS, x_var0, x_c, x_I0, x_I, x_U, x_bl, x_ret, x_next, x_asg, x_name, x_set0, x_setS, x_drop, x_cb, x_cons, x_nil, x_int1, x_abs1, x_max2, x_gcd, x_gsub, x_sl, x_part, x_nopart, x_int, x_call, x_lst, x_tup, x_not, x_and, x_or, x_andV, x_orV, x_notV, x_ifE, x_eqI, x_neI, x_eqB, x_neB, x_tbm, x_never, x_isN, x_notN, decide_eq_true_eq, Bool.false_eq_true, if_false, if_true, List.append_nil, List.nil_append, List.cons_append, x_ixT (si _ _ hT) at0, x_ixT (si _ _ hT) at1]
    refine ⟨a, b, as, bs, rfl, si _ _ ha, si _ _ hb, fun z => absurd okk z, fun _ H1 s1 => ?_⟩
    have t1 := si.trans s1
    simp only [x_if, x_test, x_B, x_op, x_un, x_varS, x_var0, x_c, x_I0, x_I, x_U, x_bl, x_ret, x_next, x_asg, x_name, x_set0, x_setS, x_drop, x_cb, x_cons, x_nil, x_int1, x_abs1, x_max2, x_gcd, x_gsub, x_sl, x_part, x_nopart, x_int, x_call, x_lst, x_tup, x_not, x_and, x_or, x_andV, x_orV, x_notV, x_ifE, x_eqI, x_neI, x_eqB, x_neB, x_tbm, x_never, x_isN, x_notN, decide_eq_true_eq, Bool.false_eq_true, if_false, if_true, List.append_nil, List.nil_append, List.cons_append, x_ixT (t1 _ _ hT) at0, x_ixT (t1 _ _ hT) at1]
    refine ⟨a, b, as, bs, rfl, t1 _ _ ha, t1 _ _ hb, by omega, by omega, ?_⟩
    refine ⟨_, _, rfl, ?_⟩
    rw [decide_eq_true rfl]
    refine ⟨true, rfl, ?_⟩
    rw [if_neg (by decide)]
    try dsimp only
    rw [x_seq]
    simp only [x_if, x_test, x_B, x_op, x_un, x_varS, x_var0, x_c, x_I0, x_I, x_U, x_bl, x_ret, x_next, x_asg, x_name, x_set0, x_setS, x_drop, x_cb, x_cons, x_nil, x_int1, x_abs1, x_max2, x_gcd, x_gsub, x_sl, x_part, x_nopart, x_int, x_call, x_lst, x_tup, x_not, x_and, x_or, x_andV, x_orV, x_notV, x_ifE, x_eqI, x_neI, x_eqB, x_neB, x_tbm, x_never, x_isN, x_notN, decide_eq_true_eq, Bool.false_eq_true, if_false, if_true, List.append_nil, List.nil_append, List.cons_append, x_ixT (t1 _ _ hT) at0, x_ixT (t1 _ _ hT) at1]
    refine ⟨a, b, as, bs, rfl, t1 _ _ ha, t1 _ _ hb, fun z => absurd okk z, fun _ H2 s2 => ?_⟩
    have t2 := t1.trans s2
    simp only [x_if, x_test, x_B, x_op, x_un, x_varS, x_var0, x_c, x_I0, x_I, x_U, x_bl, x_ret, x_next, x_asg, x_name, x_set0, x_setS, x_drop, x_cb, x_cons, x_nil, x_int1, x_abs1, x_max2, x_gcd, x_gsub, x_sl, x_part, x_nopart, x_int, x_call, x_lst, x_tup, x_not, x_and, x_or, x_andV, x_orV, x_notV, x_ifE, x_eqI, x_neI, x_eqB, x_neB, x_tbm, x_never, x_isN, x_notN, decide_eq_true_eq, Bool.false_eq_true, if_false, if_true, List.append_nil, List.nil_append, List.cons_append, x_ixT (t2 _ _ hT) at0, x_ixT (t2 _ _ hT) at1]
    refine ⟨a, b, as, bs, rfl, t2 _ _ ha, t2 _ _ hb, by omega, by omega, ?_⟩
    refine ⟨_, _, rfl, ?_⟩
    rw [decide_eq_true rfl]
    refine ⟨true, rfl, ?_⟩
    rw [if_neg (by decide)]
    try dsimp only
    rw [x_seq]
    simp only [x_if, x_test, x_B, x_op, x_un, x_varS, x_var0, x_c, x_I0, x_I, x_U, x_bl, x_ret, x_next, x_asg, x_name, x_set0, x_setS, x_drop, x_cb, x_cons, x_nil, x_int1, x_abs1, x_max2, x_gcd, x_gsub, x_sl, x_part, x_nopart, x_int, x_call, x_lst, x_tup, x_not, x_and, x_or, x_andV, x_orV, x_notV, x_ifE, x_eqI, x_neI, x_eqB, x_neB, x_tbm, x_never, x_isN, x_notN, decide_eq_true_eq, Bool.false_eq_true, if_false, if_true, List.append_nil, List.nil_append, List.cons_append, x_ixT (t2 _ _ hT) at0, x_ixT (t2 _ _ hT) at1]
    refine ⟨a, as, rfl, t2 _ _ ha, fun z => absurd ⟨okk'.1, okk'.2.1⟩ z, fun _ => ⟨sma, ?_⟩⟩
    simp only [x_if, x_test, x_B, x_op, x_un, x_varS, x_var0, x_c, x_I0, x_I, x_U, x_bl, x_ret, x_next, x_asg, x_name, x_set0, x_setS, x_drop, x_cb, x_cons, x_nil, x_int1, x_abs1, x_max2, x_gcd, x_gsub, x_sl, x_part, x_nopart, x_int, x_call, x_lst, x_tup, x_not, x_and, x_or, x_andV, x_orV, x_notV, x_ifE, x_eqI, x_neI, x_eqB, x_neB, x_tbm, x_never, x_isN, x_notN, decide_eq_true_eq, Bool.false_eq_true, if_false, if_true, List.append_nil, List.nil_append, List.cons_append, x_ixT (t2 _ _ hT) at0, x_ixT (t2 _ _ hT) at1]
    refine ⟨_, rfl, true, rfl, ?_⟩
    rw [if_neg (by decide)]
    simp only [x_if, x_test, x_B, x_op, x_un, x_varS, x_var0, x_c, x_I0, x_I, x_U, x_bl, x_ret, x_next, x_asg, x_name, x_set0, x_setS, x_drop, x_cb, x_cons, x_nil, x_int1, x_abs1, x_max2, x_gcd, x_gsub, x_sl, x_part, x_nopart, x_int, x_call, x_lst, x_tup, x_not, x_and, x_or, x_andV, x_orV, x_notV, x_ifE, x_eqI, x_neI, x_eqB, x_neB, x_tbm, x_never, x_isN, x_notN, decide_eq_true_eq, Bool.false_eq_true, if_false, if_true, List.append_nil, List.nil_append, List.cons_append, x_ixT (t2 _ _ hT) at0, x_ixT (t2 _ _ hT) at1]
    refine ⟨a, as, rfl, t2 _ _ ha, okk'.2.1, sma, ?_⟩
    simp only [x_if, x_test, x_B, x_op, x_un, x_varS, x_var0, x_c, x_I0, x_I, x_U, x_bl, x_ret, x_next, x_asg, x_name, x_set0, x_setS, x_drop, x_cb, x_cons, x_nil, x_int1, x_abs1, x_max2, x_gcd, x_gsub, x_sl, x_part, x_nopart, x_int, x_call, x_lst, x_tup, x_not, x_and, x_or, x_andV, x_orV, x_notV, x_ifE, x_eqI, x_neI, x_eqB, x_neB, x_tbm, x_never, x_isN, x_notN, decide_eq_true_eq, Bool.false_eq_true, if_false, if_true, List.append_nil, List.nil_append, List.cons_append]
    rw [if_neg (by simp)]
    exact ⟨t2, _, _, rfl⟩
  · rintro σ H' ⟨si, w1, w2, rfl⟩
    simp only [x_if, x_test, x_B, x_op, x_un, x_varS, x_var0, x_c, x_I0, x_I, x_U, x_bl, x_ret, x_next, x_asg, x_name, x_set0, x_setS, x_drop, x_cb, x_cons, x_nil, x_int1, x_abs1, x_max2, x_gcd, x_gsub, x_sl, x_part, x_nopart, x_int, x_call, x_lst, x_tup, x_not, x_and, x_or, x_andV, x_orV, x_notV, x_ifE, x_eqI, x_neI, x_eqB, x_neB, x_tbm, x_never, x_isN, x_notN, decide_eq_true_eq, Bool.false_eq_true, if_false, if_true, List.append_nil, List.nil_append, List.cons_append]
    exact k _ (s.trans si)
end
end SpX

set_option Elab.async false
set_option linter.all false
set_option maxRecDepth 100000
set_option maxHeartbeats 2000000
namespace SpX
open PySem PySem.Spec L2 StX RZ
/-- all exponents of a dimension and a degree, in order -/
def mons : Nat → Nat → List (List Int)
  | 0, _ => []
  | 1, k => [[(k : Int)]]
  | d + 2, k => (List.range (k + 1)).flatMap fun i => (mons (d + 1) i).map fun r => ((k : Int) - (i : Int)) :: r
/-- the first of them -/
def blocks (e k m : Nat) : List (List Int) := (List.range m).flatMap fun i => (mons (e + 1) i).map fun r => ((k : Int) - (i : Int)) :: r
theorem blocks_next (e k m : Nat) : blocks e k (m + 1) = blocks e k m ++ (mons (e + 1) m).map fun r => ((k : Int) - (m : Int)) :: r := by
  unfold blocks
  rw [List.range_succ, List.flatMap_append]
  simp
theorem blocks_len : ∀ e, e ≤ 1 → ∀ k, k ≤ 16 → ∀ m, m ≤ 17 → (blocks e k m).length < 1000 := by
  have h : ∀ e, e ≤ 1 → ∀ m, m ≤ 17 → (blocks e 0 m).length < 1000 := by decide +kernel
  intro e he k _ m hm
  have q : (blocks e k m).length = (blocks e 0 m).length := by
    unfold blocks
    rw [List.length_flatMap, List.length_flatMap]
    simp
  rw [q]
  exact h e he m hm
theorem ListedAt.same {H H' : Hp} {p : Addr} {nss : List (List Int)} (h : ListedAt H p nss) (s : Same H H') : ListedAt H' p nss := by
  obtain ⟨ps, a, b, c⟩ := h
  exact ⟨ps, s _ _ a, b, fun i q ns x y => s _ _ (c i q ns x y)⟩
theorem ListedAt.put {H : Hp} {D a : Addr} {nss : List (List Int)} {xs ys : List V} (h : ListedAt H a nss) (hD : H D = some (.lst xs)) (na : a ≠ D) : ListedAt (upd H D (.lst ys)) a nss := by
  obtain ⟨ps, x, b, c⟩ := h
  refine ⟨ps, by rw [upd_ne na]; exact x, b, fun i q ns x y => ?_⟩
  have e := c i q ns x y
  have n : q ≠ D := fun z => by
    rw [ExpAt, z, hD] at e
    cases e
  rw [ExpAt, upd_ne n]
  exact e
theorem mons_lens : ∀ e, e ≤ 1 → ∀ m, m ≤ 16 → ∀ ns ∈ mons (e + 1) m, ns.length = e + 1 := by decide +kernel
theorem ListedAt.push {H : Hp} {D T : Addr} {nss : List (List Int)} {ns : List Int} (h : ListedAt H D nss) (ht : ExpAt H T ns) : ∃ acc, H D = some (.lst acc) ∧ acc.length = nss.length ∧ ListedAt (upd H D (.lst (acc ++ [.ref T]))) D (nss ++ [ns]) := by
  obtain ⟨ps, a, b, c⟩ := h
  have keep : ∀ q ns, ExpAt H q ns → ExpAt (upd H D (.lst (ps.map V.ref ++ [.ref T]))) q ns := fun q ns e => by
    have n : q ≠ D := fun z => by
      rw [ExpAt, z, a] at e
      cases e
    rw [ExpAt, upd_ne n]
    exact e
  refine ⟨_, a, by rw [List.length_map]; exact b, ps ++ [T], by rw [upd_same, List.map_append]; rfl, by rw [List.length_append, List.length_append, b]; rfl, fun i q ms x y => ?_⟩
  by_cases hi : i < ps.length
  · rw [List.getElem?_append_left hi] at x
    rw [List.getElem?_append_left (by omega)] at y
    exact keep _ _ (c i q ms x y)
  · rw [List.getElem?_append_right (by omega)] at x
    rw [List.getElem?_append_right (by omega)] at y
    have e : i - ps.length = 0 := by
      have := (List.getElem?_eq_some_iff.mp x).1
      simp at this
      omega
    rw [← b, e] at y
    rw [e] at x
    cases x
    cases y
    exact keep _ _ ht
def spMod (Z : Addr) (n : Nat) : Sp := fun vs H Q E => 0 < n ∧ ∃ d k : Int, vs = [.int d, .int k] ∧ (¬(1 ≤ d ∧ d ≤ 3) → E (.ref Z) none H) ∧ (1 ≤ d ∧ d ≤ 3 → d ≤ n ∧ 0 ≤ k ∧ k ≤ 16 ∧ ∀ p H', Same H H' → H p = none → ListedAt H' p (mons d.toNat k.toNat) → Q (.ref p) H')
section
variable (n : Nat)
def t_mod (K : PySem.W.Frag) (Z : Addr) (E : XK) : TS :=
    (tSeq (tDrop (tCall (spChk Z) [] E (tCons (tVar 0) tNil)))
    (tSeq (tIfS (tTest (tOp (rI0 fun i j => .bl (decide (i < j))) (tVar 1) (tC (.int 0)))) (tRet (tLst tNil)) tNext)
    (tSeq (tIfS (tTest (tOp rEq (tVar 0) (tC (.int 1)))) (tRet (tLst (tCons (tTup (tCons (tVar 1) tNil)) tNil))) tNext)
    (tRet (tLc2 (iRng3 (tCons (tVar 1) (tCons (tUn (rU fun i => .int (-i)) (tC (.int 1))) (tCons (tUn (rU fun i => .int (-i)) (tC (.int 1))) tNil)))) (gName 2) tYes (iList K (tCall (spMod Z n) [] E0 (tCons (tOp (rI0 fun i j => .int (i - j)) (tVar 0) (tC (.int 1))) (tCons (tOp (rI0 fun i j => .int (i - j)) (tVar 1) (tVar 2)) tNil)))) (gName 3) tYes (tTup (tCons (tVar 2) (tStar K (tVar 3) tNil))) [2, 3] [3])))))
end
section
variable {K : PySem.W.Frag} {Z : Addr}
/-- a comprehension of a list's items for each number of a range -/
theorem lc2_rng {ta : TA} {te1 te : TE} {σ : L2.St} {H : Hp} {Q : VK} {i j : Nat} {lo hi c : Int} {n : Nat} (hv : ∀ QA : List V → Hp → Prop, ta σ H QA = QA [.int lo, .int hi, .int c] H) (hr : RgC lo hi c n) (Pv : Addr → Nat → Hp → Prop) (Pw : Addr → Nat → Addr → List V → Nat → Hp → Prop)
    (w1 : ∀ x, wipe ((wipe σ [i, j]).set i (some x)) [i, j] = wipe σ [i, j]) (w2 : ∀ x y, wipe ((wipe ((wipe σ [i, j]).set i (some x)) [j]).set j (some y)) [j] = wipe ((wipe σ [i, j]).set i (some x)) [j])
    (h0 : ∀ D, H D = none → Pv D 0 (upd H D (.lst [])))
    (hb : ∀ D m H' (QQ : VK), H D = none → m < n → Pv D m H' → (∀ a xs H4, H4 a = some (.lst xs) → Pw D m a xs 0 H4 → QQ (.ref a) H4) → te1 ((wipe σ [i, j]).set i (some (.int (lo + (m : Nat) * c)))) H' QQ)
    (hl : ∀ D m a xs k H', H D = none → Pw D m a xs k H' → H' a = some (.lst xs))
    (hs : ∀ D m a xs k y H', H D = none → m < n → xs[k]? = some y → Pw D m a xs k H' → te ((wipe ((wipe σ [i, j]).set i (some (.int (lo + (m : Nat) * c)))) [j]).set j (some y)) H' fun z H7 => ∃ acc, H7 D = some (.lst acc) ∧ acc.length < sizeLine ∧ Pw D m a xs (k + 1) (upd H7 D (.lst (acc ++ [z]))))
    (hn : ∀ D m a xs H', H D = none → m < n → Pw D m a xs xs.length H' → Pv D (m + 1) H')
    (hd : ∀ D H', H D = none → Pv D n H' → Q (.ref D) H') : tLc2 (iRng3 ta) (gName i) tYes (iList K te1) (gName j) tYes te [i, j] [j] σ H Q := by
  show ta σ H _
  rw [hv]
  refine ⟨lo, hi, c, n, rfl, hr, fun D hD => ⟨fun m r H' => r = n - m ∧ m ≤ n ∧ Pv D m H', ⟨n, by simp, Nat.zero_le _, h0 D hD⟩, ?_⟩⟩
  rintro m r H' ⟨rfl, hm, p⟩
  by_cases hlt : m < n
  · refine .inr ⟨hlt, Pv D (m + 1), fun H' p' => ⟨n - (m + 1), by omega, rfl, hlt, p'⟩, fun x H2 y => ?_⟩
    obtain ⟨e, y⟩ := y
    subst e y
    refine ⟨w1 _, ?_⟩
    unfold tYes
    dsimp only
    rw [if_pos rfl]
    show te1 _ _ _
    refine hb D m H2 _ hD hlt p fun a xs H4 ha q => ⟨a, rfl, ⟨xs, SqL.at ha⟩, ?_⟩
    refine ⟨fun k r H' => r = xs.length - k ∧ k ≤ xs.length ∧ Pw D m a xs k H', ⟨xs.length, by simp, Nat.zero_le _, q⟩, ?_⟩
    rintro k r H' ⟨rfl, hk, pw⟩
    have ha' := hl D m a xs k H' hD pw
    by_cases hlk : k < xs.length
    · refine .inr ⟨⟨xs, xs[k], SqL.at ha', by simp [hlk]⟩, Pw D m a xs (k + 1), fun H' p' => ⟨xs.length - (k + 1), by omega, rfl, hlk, p'⟩, fun y H5 z => ?_⟩
      obtain ⟨e, z⟩ := z
      subst e
      refine ⟨w2 _ _, ?_⟩
      show if true = true then _ else _
      rw [if_pos rfl]
      exact hs D m a xs k y _ hD hlt (z xs (SqL.at ha')) pw
    · have e : k = xs.length := by omega
      subst e
      exact .inl ⟨⟨xs, SqL.at ha', Nat.le_refl _⟩, hn D m a xs _ hD hlt pw⟩
  · have e : m = n := by omega
    subst e
    exact .inl ⟨Nat.le_refl _, hd D _ hD p⟩
theorem x_starE {te : TE} {t : TA} {σ : L2.St} {H : Hp} {Q : List V → Hp → Prop} : tStar K te t σ H Q = te σ H fun x H1 => ∃ p xs, x = V.ref p ∧ (SqT K H1 p xs ∨ SqL K H1 p xs) ∧ t σ H1 fun ys H2 => Q (xs ++ ys) H2 := rfl
theorem take_next' {α : Type} {l : List α} {i : Nat} {z : α} (h : l[i]? = some z) : l.take (i + 1) = l.take i ++ [z] := by
  rw [List.take_add_one, h]
  rfl
theorem pure_mod {n : Nat} (vs : List V) (H : Hp) (Q : VK) (E : XK) (h : spMod Z (n + 1) vs H Q E) : t_mod n K Z E { nx := fun _ H' => Q .non H', rt := Q } (start ["dimension", "degree", "first", "rest"] vs) H := by
  obtain ⟨_, d, k, rfl, ke, kk⟩ := h
  show t_mod n K Z E _ [some (.int d), some (.int k), none, none] H
  unfold t_mod
  rw [x_seq]
  simp only [x_if, x_test, x_B, x_op, x_un, x_varS, x_var0, x_c, x_I0, x_I, x_U, x_bl, x_ret, x_next, x_asg, x_name, x_set0, x_setS, x_drop, x_cb, x_cons, x_nil, x_int1, x_abs1, x_max2, x_gcd, x_gsub, x_sl, x_part, x_nopart, x_int, x_call, x_lst, x_tup, x_not, x_and, x_or, x_andV, x_orV, x_notV, x_ifE, x_eqI, x_neI, x_eqB, x_neB, x_tbm, x_never, x_isN, x_notN, decide_eq_true_eq, Bool.false_eq_true, if_false, if_true, List.append_nil, List.nil_append, List.cons_append]
  refine ⟨d, rfl, ke, fun hd => ?_⟩
  obtain ⟨dn, k0, k16, kk⟩ := kk hd
  rw [x_seq]
  simp only [x_if, x_test, x_B, x_op, x_un, x_varS, x_var0, x_c, x_I0, x_I, x_U, x_bl, x_ret, x_next, x_asg, x_name, x_set0, x_setS, x_drop, x_cb, x_cons, x_nil, x_int1, x_abs1, x_max2, x_gcd, x_gsub, x_sl, x_part, x_nopart, x_int, x_call, x_lst, x_tup, x_not, x_and, x_or, x_andV, x_orV, x_notV, x_ifE, x_eqI, x_neI, x_eqB, x_neB, x_tbm, x_never, x_isN, x_notN, decide_eq_true_eq, Bool.false_eq_true, if_false, if_true, List.append_nil, List.nil_append, List.cons_append]
  rw [if_neg (by omega)]
  rw [x_seq]
  simp only [x_if, x_test, x_B, x_op, x_un, x_varS, x_var0, x_c, x_I0, x_I, x_U, x_bl, x_ret, x_next, x_asg, x_name, x_set0, x_setS, x_drop, x_cb, x_cons, x_nil, x_int1, x_abs1, x_max2, x_gcd, x_gsub, x_sl, x_part, x_nopart, x_int, x_call, x_lst, x_tup, x_not, x_and, x_or, x_andV, x_orV, x_notV, x_ifE, x_eqI, x_neI, x_eqB, x_neB, x_tbm, x_never, x_isN, x_notN, decide_eq_true_eq, Bool.false_eq_true, if_false, if_true, List.append_nil, List.nil_append, List.cons_append]
  by_cases d1 : d = 1
  · rw [if_pos d1]
    subst d1
    refine ⟨sl5 (by simp), fun p hp => ⟨sl5 (by simp), fun q hq => ?_⟩⟩
    have hq' : H q = none := by
      cases e : H q with
      | none => rfl
      | some o => rw [Same.new hp _ _ e] at hq; cases hq
    refine kk q _ (Same.new' (Same.new hp) hq) hq' ⟨[p], upd_same, rfl, ?_⟩
    rintro (_ | i) x ns hx hn
    · cases hx
      have e : mons (Int.toNat 1) k.toNat = [[k]] := by
        show [[((k.toNat : Nat) : Int)]] = _
        rw [Int.toNat_of_nonneg k0]
      rw [e] at hn
      cases hn
      exact Same.new hq _ _ upd_same
    · cases hx
  · rw [if_neg d1]
    obtain ⟨e, rfl⟩ : ∃ e : Nat, d = (e : Int) + 2 := ⟨(d - 2).toNat, by omega⟩
    obtain ⟨k, rfl⟩ := Int.eq_ofNat_of_zero_le k0
    have e1 : ((e : Int) + 2).toNat = e + 2 := by omega
    rw [e1, Int.toNat_natCast] at kk
    refine lc2_rng (lo := (k : Int)) (hi := -1) (c := -1) (n := k + 1) (fun QA => by simp only [x_if, x_test, x_B, x_op, x_un, x_varS, x_var0, x_c, x_I0, x_I, x_U, x_bl, x_ret, x_next, x_asg, x_name, x_set0, x_setS, x_drop, x_cb, x_cons, x_nil, x_int1, x_abs1, x_max2, x_gcd, x_gsub, x_sl, x_part, x_nopart, x_int, x_call, x_lst, x_tup, x_not, x_and, x_or, x_andV, x_orV, x_notV, x_ifE, x_eqI, x_neI, x_eqB, x_neB, x_tbm, x_never, x_isN, x_notN, decide_eq_true_eq, Bool.false_eq_true, if_false, if_true, List.append_nil, List.nil_append, List.cons_append]) (by
      have := RgC.neg (i := (k : Int)) (j := -1) (by omega) (by omega) (by decide) (by decide)
      have e : ((k : Int) - -1).toNat = k + 1 := by omega
      rwa [e] at this)
      (fun D m H' => Same H H' ∧ ListedAt H' D (blocks e k m))
      (fun D m a xs j H' => Same H H' ∧ H' a = some (.lst xs) ∧ a ≠ D ∧ ListedAt H' a (mons (e + 1) m) ∧ ListedAt H' D (blocks e k m ++ ((mons (e + 1) m).take j).map fun r => ((k : Int) - (m : Int)) :: r))
      (fun x => rfl) (fun x y => rfl) (fun D hD => ⟨Same.new hD, [], upd_same, rfl, fun i q ns x => by cases x⟩) (fun D m H' QQ hD hm s kq => ?_) (fun D m a xs j H' _ s => s.2.1) (fun D m a xs j y H' hD hm hy s => ?_) (fun D m a xs H' hD hm s => ?_) fun D H' hD s => ?_
    · show tCall _ _ _ _ [some (.int ((e : Int) + 2)), some (.int k), some (.int _), none] H' QQ
      simp only [x_if, x_test, x_B, x_op, x_un, x_varS, x_var0, x_c, x_I0, x_I, x_U, x_bl, x_ret, x_next, x_asg, x_name, x_set0, x_setS, x_drop, x_cb, x_cons, x_nil, x_int1, x_abs1, x_max2, x_gcd, x_gsub, x_sl, x_part, x_nopart, x_int, x_call, x_lst, x_tup, x_not, x_and, x_or, x_andV, x_orV, x_notV, x_ifE, x_eqI, x_neI, x_eqB, x_neB, x_tbm, x_never, x_isN, x_notN, decide_eq_true_eq, Bool.false_eq_true, if_false, if_true, List.append_nil, List.nil_append, List.cons_append]
      refine ⟨by omega, _, _, rfl, fun z => absurd z (by omega), fun _ => ⟨by omega, by omega, by omega, fun p H2 s2 hp hl => ?_⟩⟩
      have e2 : ((e : Int) + 2 - 1).toNat = e + 1 := by omega
      have e3 : ((k : Int) - ((k : Int) + (m : Int) * -1)).toNat = m := by omega
      rw [e2, e3] at hl
      obtain ⟨ps, z, _⟩ := id hl
      obtain ⟨qs, z2, _⟩ := id s.2
      refine kq p _ H2 z ⟨s.1.trans s2, z, fun q => ?_, hl, ?_⟩
      · rw [q, z2] at hp
        cases hp
      · have w := s.2.same s2
        rw [List.take_zero, List.map_nil, List.append_nil]
        exact w
    · obtain ⟨s1, ha, na, hla, hld⟩ := s
      obtain ⟨ps, z, zl, zc⟩ := id hla
      rw [ha] at z
      injection z with z
      injection z with z
      subst z
      obtain ⟨q, hq, rfl⟩ := ref_at hy
      have lj := (List.getElem?_eq_some_iff.mp hq).1
      have hns : (mons (e + 1) m)[j]? = some ((mons (e + 1) m)[j]'(by omega)) := List.getElem?_eq_getElem (by omega)
      generalize (mons (e + 1) m)[j]'(by omega) = ns at hns
      have hx := zc j q ns hq hns
      show tTup (tCons (tVar 2) (tStar K (tVar 3) tNil)) [some (.int ((e : Int) + 2)), some (.int k), some (.int ((k : Int) + (m : Int) * -1)), some (.ref q)] H' _
      simp only [x_if, x_test, x_B, x_op, x_un, x_varS, x_var0, x_c, x_I0, x_I, x_U, x_bl, x_ret, x_next, x_asg, x_name, x_set0, x_setS, x_drop, x_cb, x_cons, x_nil, x_int1, x_abs1, x_max2, x_gcd, x_gsub, x_sl, x_part, x_nopart, x_int, x_call, x_lst, x_tup, x_not, x_and, x_or, x_andV, x_orV, x_notV, x_ifE, x_eqI, x_neI, x_eqB, x_neB, x_tbm, x_never, x_isN, x_notN, decide_eq_true_eq, Bool.false_eq_true, if_false, if_true, List.append_nil, List.nil_append, List.cons_append]
      have lb := blocks_len e (by omega) k (by omega) (m + 1) (by omega)
      rw [blocks_next, List.length_append, List.length_map] at lb
      rw [x_starE]
      simp only [x_if, x_test, x_B, x_op, x_un, x_varS, x_var0, x_c, x_I0, x_I, x_U, x_bl, x_ret, x_next, x_asg, x_name, x_set0, x_setS, x_drop, x_cb, x_cons, x_nil, x_int1, x_abs1, x_max2, x_gcd, x_gsub, x_sl, x_part, x_nopart, x_int, x_call, x_lst, x_tup, x_not, x_and, x_or, x_andV, x_orV, x_notV, x_ifE, x_eqI, x_neI, x_eqB, x_neB, x_tbm, x_never, x_isN, x_notN, decide_eq_true_eq, Bool.false_eq_true, if_false, if_true, List.append_nil, List.nil_append, List.cons_append]
      refine ⟨q, _, rfl, .inl (SqT.at hx), ?_, fun T hT => ?_⟩
      · rw [List.length_cons, List.length_map]
        have := mons_lens e (by omega) m (by omega) ns (List.mem_of_getElem? hns)
        exact sl5 (by omega)
      · skip
        have sT : Same H' (upd H' T (.tup (V.int ((k : Int) + (m : Int) * -1) :: ns.map V.int))) := Same.new hT
        have eT : ExpAt (upd H' T (.tup (V.int ((k : Int) + (m : Int) * -1) :: ns.map V.int))) T (((k : Int) - (m : Int)) :: ns) := by
          rw [ExpAt, upd_same, List.map_cons]
          congr 4
          omega
        obtain ⟨acc, h1, h2, h3⟩ := (hld.same sT).push eT
        refine ⟨acc, h1, ?_, ?_, ?_, na, ?_, ?_⟩
        · rw [h2, List.length_append, List.length_map, List.length_take]
          exact Nat.lt_of_lt_of_le (show _ < 1000 by omega) (by decide)
        · intro b o w
          rw [upd_ne (ne_of_none w hD)]
          exact sT _ _ (s1 _ _ w)
        · rw [upd_ne na]
          exact sT _ _ ha
        · exact (hla.same sT).put h1 na
        · rw [take_next' hns, List.map_append, ← List.append_assoc]
          exact h3
    · obtain ⟨s1, ha, na, hla, hld⟩ := s
      obtain ⟨ps, z, zl, zc⟩ := id hla
      rw [ha] at z
      injection z with z
      injection z with z
      rw [List.take_of_length_le (by rw [z, List.length_map]; omega), ← blocks_next] at hld
      exact ⟨s1, hld⟩
    · exact kk D H' s.1 hD s.2
end
end SpX

set_option Elab.async false
set_option linter.all false
set_option maxRecDepth 100000
set_option maxHeartbeats 2000000
namespace SpX
open PySem PySem.Spec L2 StX RZ
def adj : List (List Int) → Bool
  | a :: b :: r => HT.lexLt (plc a) (plc b) && adj (b :: r)
  | _ => true
def chkL (nss : List (List Int)) (d : Nat) (low high : Int) : Bool := nss.all (fun ns => decide (ns.length = d) && (ns.all fun x => decide (0 ≤ x)) && decide (low ≤ ns.sum) && decide (ns.sum ≤ high)) && adj nss
theorem adj_at : ∀ (nss : List (List Int)) (i : Nat) (ns ms : List Int), adj nss = true → nss[i]? = some ns → nss[i + 1]? = some ms → HT.lexLt (plc ns) (plc ms) = true
  | a :: b :: r, 0, ns, ms, h, x, y => by
    cases x; cases y
    simp only [adj, Bool.and_eq_true] at h
    exact h.1
  | a :: b :: r, i + 1, ns, ms, h, x, y => by
    simp only [adj, Bool.and_eq_true] at h
    exact adj_at (b :: r) i ns ms h.2 x y
  | [a], 0, _, _, _, _, y => by cases y
  | [a], i + 1, _, _, _, x, _ => by cases x
  | [], _, _, _, _, x, _ => by cases x
theorem InOrder.of {nss : List (List Int)} {d : Nat} {low high : Int} (h : chkL nss d low high = true) : InOrder nss d low high := by
  unfold chkL at h
  rw [Bool.and_eq_true, List.all_eq_true] at h
  obtain ⟨h, o⟩ := h
  have all : ∀ ns ∈ nss, ns.length = d ∧ (∀ x ∈ ns, 0 ≤ x) ∧ low ≤ ns.sum ∧ ns.sum ≤ high := fun ns m => by
    have := h ns m
    simpa [and_assoc] using this
  exact ⟨fun ns m => by rw [(all ns m).1], fun ns m => (all ns m).2.1, fun ns m => (all ns m).2.2.1, fun ns m => (all ns m).2.2.2, fun i ns ms x y => adj_at nss i ns ms o x y⟩
/-- all below a degree -/
def ups (d k : Nat) : List (List Int) := (List.range k).flatMap (mons d)
theorem mons_chk : ∀ e, e ≤ 2 → ∀ k, k ≤ 16 → chkL (mons (e + 1) k) (e + 1) k k = true := by decide +kernel
theorem ups_chk : ∀ e, e ≤ 2 → ∀ k, k ≤ 17 → chkL (ups (e + 1) k) (e + 1) 0 ((k : Int) - 1) = true := by decide +kernel
theorem mons_many : ∀ e : Nat, e ≤ 2 → ∀ k : Nat, k ≤ 16 → ((mons (e + 1) k).length : Int) = many ((e : Int) + 1) k - many ((e : Int) + 1) ((k : Int) - 1) := by decide +kernel
theorem ups_many : ∀ e : Nat, e ≤ 2 → ∀ k : Nat, k ≤ 17 → ((ups (e + 1) k).length : Int) = many ((e : Int) + 1) ((k : Int) - 1) := by decide +kernel
theorem ups_len : ∀ e : Nat, e ≤ 2 → ∀ k : Nat, k ≤ 17 → (ups (e + 1) k).length < 1000 := by decide +kernel
theorem mons_len : ∀ e : Nat, e ≤ 2 → ∀ k : Nat, k ≤ 16 → 0 < (mons (e + 1) k).length ∧ (mons (e + 1) k).length < 1000 := by decide +kernel
end SpX

set_option Elab.async false
set_option linter.all false
set_option maxRecDepth 100000
set_option maxHeartbeats 2000000
/-! A for loop in a generator's body; yield from a list. -/
namespace SpX
open PySem PySem.Spec PyProof.Rows L2
section
variable {M : Model} {A : Around} {R : GenEnd} {Y : Protocol} {n : Nat} {s₀ : Shared} {c : Code} {fs : List Frame} {s : Shared} {env : Env} {K : Flow → Sem PySem.Fin} {H : Value → Sem PySem.Fin} {gd : Bool → Bool} {lv : List Value → List Value}
theorem sgf_for {target iter : Expr} {body orelse : List Stmt} {pos : Pos}
    (h : wpAny M (A.over c fs) (eval iter env) (fun x s1 => wpAny M (A.over c fs) (pyIter x) (fun it s2 => ∀ p, Seg M A R Y n s₀ (.forLoop target it body orelse env) (M.den (.forLoop target it body orelse env))
      (.ret (fun r => ((match r with | .ok f => (.pure f : Sem Flow) | .error e => .raise e).onRaise (cameBack env)).wrap K H gd lv) none (gd false) (lv []) c p [] :: fs) s2)
      (fun x s' => Seg M A R Y n s₀ c (H x) fs s') s1) (fun x s' => Seg M A R Y n s₀ c (H x) fs s') s)
    (hs : ∀ x, foldedSetIterable iter env x = pure x) : Seg M A R Y n s₀ c ((exec (.For target iter body orelse pos) env).wrap K H gd lv) fs s := by
  rw [exec_For]
  refine seg_bind_wrap (wpAny_standAt ?_)
  refine seg_bind_wrap (wpAny_mono h (fun x s1 h1 => ?_) fun _ _ e => e)
  refine seg_bind_wrap (wpAny_of_eq (hs x) ?_)
  refine seg_bind_wrap (wpAny_standAt ?_)
  refine seg_bind_wrap (wpAny_holding (wpAny_mono h1 (fun it s2 h2 => ?_) fun _ _ e => e))
  exact seg_call h2
end
/-- what a loop's code does with an exception of its own turn -/
def notedX (env : Env) (x : Value) : Sem PySem.Fin := (do noteFrame x env; theTreesLotGoes x : Sem Unit).bind fun _ => .raise x
section
variable {prog : Program} {w : World} {A : Around} {R : GenEnd} {Y : Protocol} {n : Nat} {s₀ : Shared} {fs : List Frame} {s : Shared} {env : Env}
theorem sgf_loop {target : Expr} {it : Value} {body orelse : List Stmt}
    (h : wpAny (model prog w) (A.over (.forLoop target it body orelse env) fs) (pyNext it) (fun r s1 => match r with
      | none => Seg (model prog w) A R Y n s₀ (.forLoop target it body orelse env) (.pure (.again (.block orelse env))) fs s1
      | some v => wpAny (model prog w) (A.over (.forLoop target it body orelse env) fs) (letOwnedTupleGo target it v) (fun _ s2 => wpAny (model prog w) (A.over (.forLoop target it body orelse env) fs) (assign target env v) (fun _ s3 =>
          Seg (model prog w) A R Y n s₀ (.forLoop target it body orelse env) ((execs body env).wrap (fun f => match f with
            | .next => .pure (.again (.forLoop target it body orelse env)) | .cont => .pure (.again (.forLoop target it body orelse env)) | .brk => .pure (.done .next) | .ret u => .pure (.done (.ret u))) (notedX env) id id) fs s3)
          (fun x s' => Seg (model prog w) A R Y n s₀ (.forLoop target it body orelse env) (notedX env x) fs s') s2) (fun x s' => Seg (model prog w) A R Y n s₀ (.forLoop target it body orelse env) (notedX env x) fs s') s1)
      (fun x s' => Seg (model prog w) A R Y n s₀ (.forLoop target it body orelse env) (notedX env x) fs s') s) :
    Seg (model prog w) A R Y n s₀ (.forLoop target it body orelse env) ((model prog w).den (.forLoop target it body orelse env)) fs s := by
  show Seg _ A R Y n s₀ _ ((forTurn target it body orelse env).onRaise (fun x => do noteFrame x env; theTreesLotGoes x)) fs s
  rw [Sem.onRaise_eq_wrap]
  unfold forTurn
  refine seg_bind_wrap (wpAny_standAt ?_)
  refine seg_bind_wrap (wpAny_onRaise (wpAny_mono h (fun r s1 h1 => ?_) fun x s' hx => wpAny_standAt hx))
  cases r with
  | none => exact h1
  | some v =>
    refine seg_bind_wrap (wpAny_mono h1 (fun _ s2 h2 => ?_) fun _ _ e => e)
    refine seg_bind_wrap (wpAny_mono h2 (fun _ s3 h3 => ?_) fun _ _ e => e)
    rw [Sem.bind_eq_wrap', Sem.wrap_wrap]
    refine Eq.mpr (congrArg (fun t => Seg (model prog w) A R Y n s₀ (.forLoop target it body orelse env) t fs s3) (Sem.wrap_congr (execs body env) _ _ (fun f => ?_) (fun x => ?_))) h3
    · cases f <;> rfl
    · rfl
end
section
variable {X : Cx}
/-- a block that is empty -/
theorem sgf_block {A : Around} {R : GenEnd} {S : Addr} {n : Nat} {s₀ s : Shared} {c : Code} {fs : List Frame} {env : Env} {k : Result → Sem PySem.Fin} {h : Option Value} {g : Bool} {l kp : List Value} {c1 : Code} {p1 : Pos}
    (hk : Seg (model X.prog X.w) A R (GY X S) n s₀ c1 (k (.ok .next)) fs s) : Seg (model X.prog X.w) A R (GY X S) n s₀ c (.pure (.again (.block [] env))) (.ret k h g l c1 p1 kp :: fs) s := by
  refine seg_again rfl ?_
  show Seg _ A R _ n s₀ _ (((execs [] env).onRaise fun x => do noteFrame x env; theTreesLotGoes x) >>= fun f => pure (.done f)) _ s
  exact seg_leaf (.ok .next) hk
def tGFor (wi : TI) (g : TG) (tb : TGn) : TGn := fun D ys σ H => wi σ H fun J H1 => ∃ W : Nat → Nat → List V → L2.St → Hp → Prop, (∃ m, W 0 m ys σ H1) ∧ ∀ i m ys σ H, W i m ys σ H →
  (J.stop i H ∧ D.nx ys σ H) ∨ (J.go i H ∧ ∃ N : List V → L2.St → Hp → Prop, (∀ ys' σ' H', N ys' σ' H' → ∃ m', m' < m ∧ W (i + 1) m' ys' σ' H') ∧ ∀ x H', J.yld i H x H' → g x σ H' fun σ2 H2 => tb { D with nx := N, ct := N, bk := D.nx } ys σ2 H2)
theorem gs_for {tg iter : Expr} {body : List Stmt} {wi : TI} {g : TG} {tb : TGn} {pos : Pos} (hp : PassesOwn (model X.prog X.w) X.A X.env X.xe) (hc : X.calm = true) (hi : PI X tg iter wi) (hg : PG X tg g) (hb : GSs X body tb)
    (hs : ∀ x, foldedSetIterable iter X.env x = pure x := by intro _; rfl) : GS X (.For tg iter body [] pos) (tGFor wi g tb) := by
  refine ⟨fun A S ip R n ys s₀ c fs K J gd lv s σ H D gc hn k hI ht => ?_⟩
  obtain ⟨acc, cc, r, I⟩ := hI
  refine sgf_for ?_ hs
  rw [gc.over]
  have out : ∀ (x : Value) (s' : Shared), X.xe x s' → Seg (model X.prog X.w) A R (GY X S) n s₀ c (J x) fs s' := fun x s' hx => k.exc n s₀ x s' hx
  refine wpAny_mono (hi.run _ s σ H _ I ht) (fun v s1 h1 => wpAny_mono h1 (fun itv s2 h2 p => ?_) out) out
  obtain ⟨it, fp, tn, Jt, H2, e, I2, T, st2, f2, W, ⟨m0, w0⟩, turn⟩ := h2
  subst e
  have gl := fun (kk : Result → Sem PySem.Fin) => gc_loop (k := kk) (c' := .forLoop tg (.ref it) body [] X.env) (l := lv []) (kp := []) (p := p) gc rfl rfl
  have stat : ∀ {H' : Hp} {acc' : Array Value} {c' : Nat}, (∀ b ∈ fp, H' b = none) → ∀ b ∈ fp, FpOk X ((S, lstObj acc' c') :: ip) H' b := fun {H' acc' c'} hn b hb => by
    obtain ⟨_, z1, z2, z3, z4, z5⟩ := f2 b hb
    refine ⟨hn b hb, z1, z2, z3, z4, fun q hq => ?_⟩
    rcases List.mem_append.mp hq with hq | hq
    · exact z5 q (List.mem_append_left _ hq)
    · rcases List.mem_cons.mp hq with hq | hq
      · rw [hq]
        exact z5 (S, lstObj acc cc) (List.mem_append_right _ List.mem_cons_self)
      · exact z5 q (List.mem_append_right _ (List.mem_cons_of_mem _ hq))
  have loop : ∀ (m i n : Nat) (ys : List V) (s₀ s : Shared) (σ : L2.St) (H : Hp), n + ys.length = sizeLine → W i m ys σ H → GI X S ip ys σ H s → tn i s.heap → (∀ b ∈ fp, H b = none) →
      Seg (model X.prog X.w) A R (GY X S) n s₀ (.forLoop tg (.ref it) body [] X.env) ((model X.prog X.w).den (.forLoop tg (.ref it) body [] X.env))
        (.ret (fun r => ((match r with | .ok f => (.pure f : Sem Flow) | .error e => .raise e).onRaise (cameBack X.env)).wrap K J gd lv) none (gd false) (lv []) c p [] :: fs) s := by
    intro m
    induction m using Nat.strongRecOn with
    | ind m ih =>
      intro i n ys s₀ s σ H hn w hI st fr
      have ee : ∀ (n : Nat) (s₀ : Shared) (x : Value) (s' : Shared), X.xe x s' → Seg (model X.prog X.w) A R (GY X S) n s₀ (.forLoop tg (.ref it) body [] X.env) (notedX X.env x)
          (.ret (fun r => ((match r with | .ok f => (.pure f : Sem Flow) | .error e => .raise e).onRaise (cameBack X.env)).wrap K J gd lv) none (gd false) (lv []) c p [] :: fs) s' := fun n s₀ x s' hx => by
        unfold notedX
        rw [Sem.bind_eq_wrap]
        refine seg_wrap ?_
        rw [(gl _).over]
        refine wpAny_bind (wpAny_mono (hp x s' hx) (fun _ s'' hcb => wpAny_theTreesLotGoes ?_) fun y s'' hcb => ?_)
        · exact seg_leaf (.error x) (seg_cameBack gc k hcb)
        · exact seg_leaf (.error y) (seg_cameBack gc k hcb)
      refine sgf_loop ?_
      rw [(gl _).over]
      obtain ⟨acc1, c1, r1, I1⟩ := hI
      rcases turn i m ys σ H w with ⟨stop, qn⟩ | ⟨go, N, hN, step⟩
      · refine wpAny_mono (T.done X rfl rfl rfl hc i _ s σ H X.xe I1 (stat fr) st stop) (fun res s4 hr => ?_) fun x s' hx => ee n s₀ x s' hx
        obtain ⟨hr, I4⟩ := hr
        subst hr
        exact sgf_block (k.ok n ys s₀ s4 .next hn ⟨σ, H, ⟨acc1, c1, r1, I4⟩, qn⟩)
      · refine wpAny_mono (T.item X rfl rfl rfl hc i _ s σ H X.xe I1 (stat fr) st go) (fun res s4 hr => ?_) fun x s' hx => ee n s₀ x s' hx
        obtain ⟨u, hr, h4⟩ := hr
        subst hr
        refine wpAny_mono h4 (fun _ s5 h5 => ?_) fun x s' hx => ee n s₀ x s' hx
        obtain ⟨x, H5, I5, r5, y5, st5, fr5⟩ := h5
        have I5' := I5.pinned (stat fr5) (T.obj _ _ st5)
        refine wpAny_mono (hg.run _ s5 σ H5 x u _ I5' r5 (step x H5 y5)) (fun _ s6 h6 => ?_) fun x s' hx => ee n s₀ x s' hx
        obtain ⟨σ6, H6, I6, q6⟩ := h6
        have gb : GC X S (ip ++ pinsAt fp s5.heap) A (.forLoop tg (.ref it) body [] X.env) (.ret (fun r => ((match r with | .ok f => (.pure f : Sem Flow) | .error e => .raise e).onRaise (cameBack X.env)).wrap K J gd lv) none (gd false) (lv []) c p [] :: fs) id :=
          ⟨gc.pn, fun q hq => by
            rcases List.mem_append.mp hq with hq | hq
            · exact gc.ip q hq
            · obtain ⟨hq1, _⟩ := of_pinsAt hq
              obtain ⟨_, _, _, _, _, z5⟩ := f2 q.1 hq1
              exact Ne.symm (z5 (S, lstObj acc cc) (List.mem_append_right _ List.mem_cons_self)), gc.apart, (gl _).over, (gl _).split, (gl _).guard, rfl⟩
        refine hb.run A S (ip ++ pinsAt fp s5.heap) R n ys s₀ _ _ _ _ id id s6 σ6 H6 { D with nx := N, ct := N, bk := D.nx } gb hn ⟨fun n' ys' s₀' s7 f hn' hs7 => ?_, fun n' s₀' x s7 hx => ee n' s₀' x s7 hx⟩ ⟨acc1, c1, r1, I6⟩ q6
        have again : ∀ {σ7 : L2.St} {H7 : Hp}, GI X S (ip ++ pinsAt fp s5.heap) ys' σ7 H7 s7 → N ys' σ7 H7 → ∃ m', m' < m ∧ W (i + 1) m' ys' σ7 H7 ∧ GI X S ip ys' σ7 H7 s7 ∧ tn (i + 1) s7.heap ∧ ∀ b ∈ fp, H7 b = none := fun {σ7 H7} I7 n7 => by
          obtain ⟨m', hm, w7⟩ := hN ys' σ7 H7 n7
          obtain ⟨acc7, c7, r7, I7⟩ := I7
          have at_ : ∀ b ∈ fp, ∀ o, s5.heap.get? b = some o → s7.heap.get? b = some o ∧ H7 b = none := fun b hb o e => by
            have q := I7.pin (b, o) (List.mem_append_right _ (List.mem_cons_of_mem _ (List.mem_append_right _ (mem_pinsAt hb e))))
            exact ⟨q.1, q.2.1⟩
          refine ⟨m', hm, w7, ⟨acc7, c7, r7, I7.unpinned (pins := (S, lstObj acc7 c7) :: ip)⟩, T.keep _ _ _ st5 fun b hb o e => (at_ b hb o e).1, fun b hb => ?_⟩
          obtain ⟨o, e, _⟩ := T.obj _ _ st5 b hb
          exact (at_ b hb o e).2
        have loose : ∀ {σ7 : L2.St} {H7 : Hp}, GI X S (ip ++ pinsAt fp s5.heap) ys' σ7 H7 s7 → GI X S ip ys' σ7 H7 s7 := fun {σ7 H7} I7 => by
          obtain ⟨acc7, c7, r7, I7⟩ := I7
          exact ⟨acc7, c7, r7, I7.unpinned (pins := (S, lstObj acc7 c7) :: ip)⟩
        cases f with
        | next =>
          obtain ⟨σ7, H7, I7, n7⟩ := hs7
          obtain ⟨m', hm, w7, J7, t7, f7⟩ := again I7 n7
          exact seg_again rfl (ih m' hm (i + 1) n' ys' s₀' s7 σ7 H7 hn' w7 J7 t7 f7)
        | cont =>
          obtain ⟨σ7, H7, I7, n7⟩ := hs7
          obtain ⟨m', hm, w7, J7, t7, f7⟩ := again I7 n7
          exact seg_again rfl (ih m' hm (i + 1) n' ys' s₀' s7 σ7 H7 hn' w7 J7 t7 f7)
        | brk =>
          obtain ⟨σ7, H7, I7, q7⟩ := hs7
          exact seg_leaf (.ok .next) (k.ok n' ys' s₀' s7 .next hn' ⟨σ7, H7, loose I7, q7⟩)
        | ret v =>
          obtain ⟨x7, σ7, H7, I7, r7, q7⟩ := hs7
          exact seg_leaf (.ok (.ret v)) (k.ok n' ys' s₀' s7 (.ret v) hn' ⟨x7, σ7, H7, loose I7, r7, q7⟩)
  exact loop m0 0 n ys s₀ s2 σ H2 hn w0 ⟨acc, cc, r, I2⟩ st2 fun b hb => (f2 b hb).1
end
/-! ### yield from a list -/
section
variable {prog : Program} {w : World} {A : Around} {E : Value → Shared → Prop} {s : Shared}
theorem lst_item {it l : Addr} {i : Nat} {items : Array Value} {x : Value} {Q : Option Value → Shared → Prop} (hit : s.heap.IsListIter it l i) (hl : s.heap.IsList l items) (hx : items[i]? = some x)
    (hQ : ∀ h', h'.IsListIter it l (i + 1) → Heap.SameBut it s.heap h' → Q (some x) { s with heap := h' }) : wpAny (model prog w) A (callSpecial? (.ref it) "__next__") Q E s := by
  obtain ⟨o, at_, cl, da⟩ := id hit
  obtain ⟨ol, atl, _, nl, dal⟩ := hl
  refine wpAny_callSpecial?_slot (name := Str.ofString "__next__") hit.typeIs slot_listiter_next (wpAny_call_entry slot_listiter_next hit.typeIs entry_listiter_next ?_ (args_listiter_next _))
  show wpAny _ _ (field (.ref it) 0 >>= _) _ _ _
  refine wpAny_bind (wpAny_field at_ da (x := .ref l) rfl ?_)
  show wpAny _ _ (if (Value.ref l == Value.none) = true then _ else _) _ _ _
  rw [if_neg (show ¬ (Value.ref l == Value.none) = true from Bool.false_ne_true)]
  show wpAny _ _ (field (.ref it) 1 >>= _) _ _ _
  refine wpAny_bind (wpAny_field at_ da (x := .int i 0) rfl ?_)
  show wpAny _ _ (seqItems? (.ref l) >>= _) _ _ _
  refine wpAny_bind (wpAny_seqItems atl dal ?_)
  simp only [hx, Int.toNat_natCast]
  refine wpAny_bind (wpAny_setField at_ da (by simp) (wpAny_pure ⟨x, rfl, hQ _ ?_ (Heap.SameBut.update ..)⟩))
  refine ⟨_, Heap.get?_update_self _ at_ (Obj.isFreed_of_fields (Obj.data_mapFields da _)), (Obj.cls_mapFields ..).trans cl, ?_⟩
  rw [Obj.data_mapFields da]
  simp [rawInt]
theorem lst_end {it l : Addr} {i : Nat} {items : Array Value} {Q : Option Value → Shared → Prop} (calm : A.handled = none) (hit : s.heap.IsListIter it l i) (hl : s.heap.IsList l items) (hx : items[i]? = none)
    (hE : ∀ e h', StopX e h' → Heap.ExtBut it s.heap h' → E e { s with heap := h' }) : wpAny (model prog w) A (callSpecial? (.ref it) "__next__") Q E s := by
  obtain ⟨o, at_, cl, da⟩ := id hit
  obtain ⟨ol, atl, _, nl, dal⟩ := hl
  refine wpAny_callSpecial?_slot (name := Str.ofString "__next__") hit.typeIs slot_listiter_next (wpAny_call_entry slot_listiter_next hit.typeIs entry_listiter_next ?_ (args_listiter_next _))
  show wpAny _ _ (field (.ref it) 0 >>= _) _ _ _
  refine wpAny_bind (wpAny_field at_ da (x := .ref l) rfl ?_)
  show wpAny _ _ (if (Value.ref l == Value.none) = true then _ else _) _ _ _
  rw [if_neg (show ¬ (Value.ref l == Value.none) = true from Bool.false_ne_true)]
  show wpAny _ _ (field (.ref it) 1 >>= _) _ _ _
  refine wpAny_bind (wpAny_field at_ da (x := .int i 0) rfl ?_)
  show wpAny _ _ (seqItems? (.ref l) >>= _) _ _ _
  refine wpAny_bind (wpAny_seqItems atl dal ?_)
  simp only [hx, Int.toNat_natCast]
  refine wpAny_bind (wpAny_rule (wpAny_bind (wpAny_setField at_ da (by simp) ?_)))
  show wpAny _ _ (newExc (.type "StopIteration") [] >>= _) _ _ _
  refine wpAny_bind ?_
  simp only [newTuple, newExc]
  refine wpAny_bind (wpAny_newObj_type ?_ (by size_fits))
  refine wpAny_bind (m := firstArgMember _ _) (wpAny_of_eq (a := Value.none) (by first | (simp only [firstArgMember]; rfl) | rfl) ?_)
  refine wpAny_newObj_type ?_ (by size_fits)
  simp only [raiseNew]
  refine wpAny_bind (wpAny_handled ?_)
  first | rw [show A.in1.handled = none from calm] | rw [calm]
  refine wpAny_bind (wpAny_pure (wpAny_throw ?_))
  refine hE _ _ ⟨_, _, _, rfl, Heap.get?_push_size _ rfl, rfl, rfl, ?_⟩ (((Heap.SameBut.update ..).extBut.push _).push _)
  first
    | (rw [Array.getElem?_append_left (by decide)]; rfl)
    | rfl
    | kernel_rfl
end
theorem close_lst : typeLookup (.type "list_iterator") "close" = pure none := by
  rw [typeLookup_type, builtinLookup_eq_fast]
  kernel_rfl
section
variable {X : Cx}
def tYfLst (K : PySem.W.Frag) (te : TE) : TYf := fun σ H Q => te σ H fun x H1 => ∃ a xs, x = .ref a ∧ H1 a = some (.lst xs) ∧ Q xs H1
theorem yf_lst {e : Expr} {te : TE} (he : PE X e te) : YfE X e (tYfLst X.K te) := by
  refine ⟨fun pins s σ H Q I h => thn (he.run pins s σ H _ I h) fun v s1 got => ?_⟩
  obtain ⟨x, H1, I1, r1, a, xs, ex, ha, hq⟩ := got
  subst ex
  obtain rfl : v = Value.ref a := r1
  obtain ⟨its, rits, p, hz⟩ := I1.list (SqL.at ha)
  have il := p.isList
  refine ⟨"list", il.typeIs, by decide, wpAny_pyIter_list il ?_⟩
  have ksz : ∀ b o, s1.heap.get? b = some o → b ≠ s1.heap.objs.size := fun b o e => Nat.ne_of_lt (Heap.lt_size e)
  have kp : ∀ b o, s1.heap.get? b = some o → (s1.heap.push { cls := .type "list_iterator", data := .fields #[.ref a, .int 0 0] }).get? b = some o := fun b o e => Heap.get?_push_of_some _ e
  have ilk : ∀ h' : Heap, (∀ o, s1.heap.get? a = some o → h'.get? a = some o) → h'.IsList a its.toArray := fun h' k => by
    obtain ⟨o, e, z⟩ := il
    exact ⟨o, k o e, z⟩
  have an : a ≠ s1.heap.objs.size := by
    obtain ⟨o, e, _⟩ := il
    exact ksz a o e
  refine ⟨s1.heap.objs.size, H1, xs, fun j h => h.IsListIter s1.heap.objs.size a j ∧ h.IsList a its.toArray, rfl, I1.kept (t' := s1.toks) kp, .inr I1.sz, Nat.ne_of_gt I1.lt, fun y c hy => ?_, I1.hok.fresh (Nat.le_refl _), fun q hq => ?_,
    ⟨⟨_, Heap.get?_push_size _ rfl, rfl, rfl⟩, ilk _ fun o e => kp a o e⟩, ⟨⟨"list_iterator", fun j h q => ?_, close_lst, by decide⟩, fun j h h' q hk => ?_, fun A' j x s2 Q' E' hA hx q hQ => ?_, fun A' s2 Q' E' hA q hE => ?_⟩, hq⟩
  · obtain ⟨v, o, ho, _⟩ := I1.cell y c hy
    exact ksz c o ho
  · exact ksz q.1 _ (I1.pin q hq).1
  · obtain ⟨⟨o, ho, hc, _⟩, _⟩ := q
    exact ⟨o, ho, hc⟩
  · obtain ⟨⟨o, ho, r⟩, o2, ho2, r2⟩ := q
    exact ⟨⟨o, hk _ o (.inl rfl) ho, r⟩, o2, hk _ o2 (.inr (by rw [ha]; exact fun z => by cases z)) ho2, r2⟩
  · obtain ⟨q1, q2⟩ := q
    obtain ⟨u, hu, ru⟩ := rits.get hx
    refine lst_item q1 q2 (x := u) (by simpa using hu) fun h' q1' hs => hQ u h' s2.toks ru ⟨q1', ?_⟩ fun b o hb eb => hs.extBut b o hb eb
    obtain ⟨o, e, z⟩ := q2
    exact ⟨o, hs.extBut a o an e, z⟩
  · obtain ⟨q1, q2⟩ := q
    have hnone : its.toArray[xs.length]? = none := by
      have e := rits.length
      have e2 : its[xs.length]? = none := List.getElem?_eq_none_iff.mpr (by omega)
      simpa using e2
    exact lst_end hA q1 q2 hnone fun e h' hS hk => hE e h' s2.toks hS fun b o hb eb => hk b o hb eb
end
end SpX

set_option Elab.async false
set_option linter.all false
set_option maxRecDepth 100000
set_option maxHeartbeats 2000000
/-! zip of an empty list and a generator: the generator never begins. -/
namespace SpX
open PySem PySem.Spec PyProof.Rows L2
abbrev zgH1 (h : Heap) (l : Addr) : Heap := h.push { cls := .type "list_iterator", data := .fields #[.ref l, .int 0 0] }
abbrev zgH2 (h : Heap) (l a : Addr) : Heap := (zgH1 h l).push { cls := .type "tuple", data := .seq #[.ref h.objs.size, .ref a] }
abbrev zgH3 (h : Heap) (l a : Addr) : Heap := (zgH2 h l a).push { cls := .type "tuple", data := .seq #[.none, .none] }
abbrev zgH4 (h : Heap) (l a : Addr) : Heap := (zgH3 h l a).push { cls := .type "zip", data := .fields #[.none, .bool false, .bool false, .ref (zgH1 h l).objs.size, .ref (zgH2 h l a).objs.size] }
theorem meets_zg (l a : Addr) (n : Nat) (xs : Array Value) :
    Meets (Builtin.«zip.__new__» ⟨[.type "zip", .ref l, .ref a], []⟩) (fun _ R s => s.heap.IsList l xs ∧ s.heap.IsGen a n ∧ R (.ok (.ret (.ref (zgH3 s.heap l a).objs.size))) { s with heap := zgH4 s.heap l a }) :=
  .of_wp fun prog w A R s h => by
    obtain ⟨hp, g, d, tk, os⟩ := s
    obtain ⟨hl, hg, h⟩ := h
    have hsub := sub_zip
    have hL : Heap.IsList (Shared.heap ⟨hp, g, d, tk, os⟩) l xs := hl
    have hG : Heap.IsGen (Shared.heap ⟨hp.push { cls := .type "list_iterator", data := .fields #[.ref l, .int 0 0] }, g, d, tk, os⟩) a n := Heap.IsGen.push hg _
    wp_walk using wpAny_pyIter_list hL, wpAny_pyIter_gen hG
    exact ⟨_, rfl, h⟩
section
variable {prog : Program} {w : World} {A : Around} {E : Value → Shared → Prop} {s : Shared}
theorem call_zg {l a : Addr} {n : Nat} {xs : Array Value} {Q : Value → Shared → Prop} (hl : s.heap.IsList l xs) (hg : s.heap.IsGen a n)
    (h : ∀ h', IsZip h' (s.heap.objs.size + 3) (s.heap.objs.size + 1) (s.heap.objs.size + 2) .none → IsPair h' (s.heap.objs.size + 1) (.ref s.heap.objs.size) (.ref a) → IsPair h' (s.heap.objs.size + 2) .none .none →
      h'.IsListIter s.heap.objs.size l 0 → (∀ c o, s.heap.get? c = some o → h'.get? c = some o) → Q (.ref (s.heap.objs.size + 3)) { s with heap := h' }) :
    wpAny (model prog w) A (call (.type "zip") [.ref l, .ref a]) Q E s := by
  refine callType_new F.called_zip (by decide) (F.typeCall_zip_2 _ _) (F.newCall_zip_2 _ _) (fun obj => F.args_object_init_3 obj _ _) F.entry_zip_new (meets_zg l a n xs) ⟨hl, hg, ?_⟩
  have z1 : (zgH1 s.heap l).objs.size = s.heap.objs.size + 1 := Heap.size_push ..
  have z2 : (zgH2 s.heap l a).objs.size = s.heap.objs.size + 2 := by rw [Heap.size_push, z1]
  have z3 : (zgH3 s.heap l a).objs.size = s.heap.objs.size + 3 := by rw [Heap.size_push, z2]
  have g4 : (zgH4 s.heap l a).get? (zgH3 s.heap l a).objs.size = some _ := Heap.get?_push_size _ rfl
  have g3 : (zgH4 s.heap l a).get? (zgH2 s.heap l a).objs.size = some _ := Heap.get?_push_of_some _ (Heap.get?_push_size _ rfl)
  have g2 : (zgH4 s.heap l a).get? (zgH1 s.heap l).objs.size = some _ := Heap.get?_push_of_some _ (Heap.get?_push_of_some _ (Heap.get?_push_size _ rfl))
  have g1 : (zgH4 s.heap l a).get? s.heap.objs.size = some _ := Heap.get?_push_of_some _ (Heap.get?_push_of_some _ (Heap.get?_push_of_some _ (Heap.get?_push_size _ rfl)))
  show _ ∧ _
  rw [z1, z2, z3] at g4
  rw [z1] at g2
  rw [z2] at g3
  rw [z3]
  exact ⟨⟨_, g4, rfl⟩, h _ g4 g2 g3 ⟨_, g1, rfl, rfl⟩ fun c o x => Heap.get?_push_of_some _ (Heap.get?_push_of_some _ (Heap.get?_push_of_some _ (Heap.get?_push_of_some _ x)))⟩
theorem zg_stop {z TI TO i1 l : Addr} {xs : Array Value} {u v1 v2 : Value} {Q : Option Value → Shared → Prop} (calm : A.handled = none) (n1 : i1 ≠ z) (n2 : l ≠ z) (n3 : l ≠ i1)
    (hz : IsZip s.heap z TI TO .none) (hTI : IsPair s.heap TI (.ref i1) u) (hTO : IsPair s.heap TO v1 v2) (h1 : s.heap.IsListIter i1 l 0) (hl : s.heap.IsList l xs) (hx : xs[0]? = none)
    (hQ : ∀ h', (∀ c o, c ≠ z → c ≠ i1 → s.heap.get? c = some o → h'.get? c = some o) → Q none { s with heap := h' }) : wpAny (model prog w) A (pyNext (.ref z)) Q E s := by
  have hT : s.TypeIs (.ref z) "zip" := ⟨_, hz, rfl⟩
  have inner : ∀ {E' : Value → Shared → Prop} {Q' : Fin → Shared → Prop}, (∀ h' e, (∀ c o, c ≠ z → c ≠ i1 → s.heap.get? c = some o → h'.get? c = some o) → (∃ o, h'.get? e = some o ∧ o.cls = .type "StopIteration") → E' (.ref e) { s with heap := h' }) →
      wpAny (model prog w) A.in1 (Builtin.«zip.__next__» ⟨[.ref z], []⟩) Q' E' s := fun {E' Q'} hE => by
    have calm1 : A.in1.handled = none := calm
    show wpAny _ _ (field (.ref z) 2 >>= _) _ _ _
    refine wpAny_bind (wpAny_field hz rfl (x := .bool false) rfl ?_)
    show wpAny _ _ (field (.ref z) 3 >>= _) _ _ _
    refine wpAny_bind (wpAny_field hz rfl (x := .ref TI) rfl ?_)
    refine wpAny_bind (wpAny_seqItems hTI rfl ?_)
    show wpAny _ _ (Builtin.SmallTypes.ownedTupleIsFree (.ref z) >>= _) _ _ _
    refine wpAny_bind ?_
    unfold Builtin.SmallTypes.ownedTupleIsFree
    refine wpAny_bind (wpAny_field hz rfl (x := .none) rfl (wpAny_pure ?_))
    simp only [if_true]
    refine wpAny_bind (wpAny_rule ?_)
    refine wpAny_bind (wpAny_field hz rfl (x := .ref TO) rfl ?_)
    refine wpAny_bind (wpAny_setField_rec hz (by simp) fun h2 z2 s2 => ?_)
    replace z2 : IsZip h2 z TI TO .ellipsis := z2
    refine wpAny_bind ?_
    simp only [List.zipIdx_nil, List.zipIdx_cons, List.forIn_nil, List.forIn_cons]
    refine wpAny_bind (wpAny_bind (wpAny_onRaise ?_))
    show wpAny _ _ (Builtin.SmallTypes.nextOf (.ref i1) >>= _) _ _ _
    refine wpAny_bind (wpAny_nextOf_list_end calm1 (h1.extBut s2.extBut n1) (hl.extBut s2.extBut n2) hx fun h3 e s3 he => ?_)
    obtain ⟨oe, ho, hc⟩ := he
    have z3 : IsZip h3 z TI TO .ellipsis := s3 _ _ n1.symm z2
    have ne : e ≠ z := fun q => by
      subst q
      rw [z3] at ho
      cases ho
      simp at hc
    exact wpAny_setField_rec z3 (by simp) fun h4 _ s4 => hE h4 e (fun c o c1 c3 q => s4.extBut _ _ c1 (s3 _ _ c3 (s2.extBut _ _ c1 q))) ⟨oe, s4.extBut _ _ ne ho, hc⟩
  unfold pyNext
  refine wpAny_bind (wpAny_attempt (wpAny_callSpecial?_slot (name := Str.ofString "__next__") hT F.slot_zip_next (wpAny_call_entry F.slot_zip_next hT F.entry_zip_next (inner fun h' e hk he => ?_) (F.args_zip_next_1 _))))
  obtain ⟨o, ho, hc⟩ := he
  exact wpAny_bind (wpAny_isInstance (T := "StopIteration") (b := true) ⟨o, ho, hc⟩ isSubtype_stop (wpAny_pure (hQ _ hk)))
end
/-- nothing is handed out: the list at l is empty -/
def Itn (K : PySem.W.Frag) (l : Addr) : It := ⟨fun _ _ => False, fun _ _ _ _ => False, fun _ H => SqL K H l []⟩
theorem turn_none {P : Program} {w : World} {K : PySem.W.Frag} {tg : Expr} {z TI TO i1 l a : Addr} (n1 : i1 ≠ z) (n2 : l ≠ z) (n3 : l ≠ i1) :
    Turn P w K tg (Itn K l) [z, TI, TO, i1] z (fun _ h => IsZip h z TI TO .none ∧ IsPair h TI (.ref i1) (.ref a) ∧ IsPair h TO .none .none ∧ h.IsListIter i1 l 0) where
  mem := by simp
  obj := fun i h st c hc => by
    obtain ⟨hz, hTI, hTO, o1, e1, _, d1⟩ := st
    have e' : c = z ∨ c = TI ∨ c = TO ∨ c = i1 := by simpa using hc
    rcases e' with q | q | q | q
    · rw [q]; exact ⟨_, hz, fun v q => nomatch q⟩
    · rw [q]; exact ⟨_, hTI, fun v q => nomatch q⟩
    · rw [q]; exact ⟨_, hTO, fun v q => nomatch q⟩
    · rw [q]; exact ⟨o1, e1, fun v q => by rw [d1] at q; cases q⟩
  keep := fun i h h' st k => by
    obtain ⟨hz, hTI, hTO, o, e, r⟩ := st
    exact ⟨k z (by simp) _ hz, k TI (by simp) _ hTI, k TO (by simp) _ hTO, o, k i1 (by simp) o e, r⟩
  item := fun X _ _ _ _ i pins s σ H E _ _ _ hg => hg.elim
  done := by
    intro X hP hw hK hc i pins s σ H E I hf st hg
    subst hP hw hK
    obtain ⟨hz, hTI, hTO, h1⟩ := st
    obtain ⟨its, rv, p, _⟩ := I.list hg
    have l1 := rv.length
    exact zg_stop (I.ok.hd hc) n1 n2 n3 hz hTI hTO h1 p.isList (by simp at l1; simp [l1]) fun h' hk => ⟨rfl, I.turnedL (t' := s.toks) (ch := [z, TI, TO, i1]) (fun c o hb q => hk c o (fun q' => hb (by simp [q'])) (fun q' => hb (by simp [q'])) q) hf⟩
  self := fun A i s Q E st h => wpAny_pyIter_zip st.1 h
section
variable {X : Cx} {k : Nat}
theorem made_inv {pins : List (Addr × Obj)} {σ : L2.St} {H : Hp} {sc s' : Shared} (I : Inv X pins σ H sc) (os : s'.os = sc.os) (bare : AllBare s'.gens) (hk : ∀ b o, sc.heap.get? b = some o → s'.heap.get? b = some o) : Inv X pins σ H s' := by
  obtain ⟨hh, g, d, t, o⟩ := s'
  have ho : o = sc.os := os
  subst ho
  refine I.step (g' := g) (t' := t) (d' := d) (ch := []) (fun b hb => by cases hb) (fun b ob _ _ _ q _ => hk b ob q) (fun b ob _ _ _ q _ => ⟨ob.slots, hk b ob q⟩) (fun _ _ _ _ n => n) (fun b ob _ q => ⟨ob, hk b ob q⟩)
    (fun _ _ q => q) (fun _ _ _ q => q) (fun b ps q => ⟨#[], by rw [q]; simp⟩) (fun m hm => ?_) (fun b u q => ?_) bare
  · obtain ⟨ob, es, ep, ho, r⟩ := hm
    exact ⟨ob, es, ep, hk _ ob ho, r⟩
  · exact (I.hok b u q).stay (fun c v _ y => hk c v y) (fun _ y => y) fun _ _ y => y
/-- zip([], g(..)), g a generator def: the generator is made, and nothing is handed out -/
def iZipG (K : PySem.W.Frag) (t1 : TE) (sp : SpG) (E : XK) (ta : TA) : TI := fun σ H R => t1 σ H fun x H1 => ∃ l, x = .ref l ∧ ta σ H1 fun vs H2 => SqL K H2 l [] ∧ sp vs H2 (fun _ _ => True) E ∧ R (Itn K l) H2
theorem made_gfn {f : Addr} {fd : FuncData} {ps : List Str} {sp : SpG} {pins : List (Addr × Obj)} {σ : L2.St} {H : Hp} {s : Shared} {us : List Value} {vs : List V} {cont : List V → Hp → Prop} {E : XK} {E1 : Value → Shared → Prop} (F : GFn X.prog X.w X.K X.mg X.base k f fd ps sp) (room : Room k X.A) (hb : Binds X.K fd ps [])
    (I : Inv X pins σ H s) (r : Vals vs us) (h : sp vs H cont E) : wpAny (model X.prog X.w) X.A (call (.ref f) us) (fun u s' => GMade X.prog X.w k X.stack H s [] cont E u s') E1 s := by
  have many : us.length = ps.length := by
    rw [← r.length]
    exact F.len _ _ _ _ h
  have bound := hb s us I.kIn (by rw [List.append_nil]; exact many)
  rw [List.append_nil] at bound
  refine wpAny_call (codeAny_mono (F.run X.A X.stack s H ⟨us, []⟩ us vs cont E room I.env0 bound r h) fun res s' got => ?_)
  rcases res with er | fl
  · exact got.elim
  · cases fl with
    | ret u => exact got
    | next => exact got.elim
    | brk => exact got.elim
    | cont => exact got.elim
theorem pi_zipG {tg e1 e : Expr} {es : List Expr} {x : Str} {f : Addr} {fd : FuncData} {ps : List Str} {sp : SpG} {t1 : TE} {ta : TA} {E : XK} {p px pos pos2 : Pos} (hg : Gl X "zip") (hm : X.mg "zip" = none) (he1 : PE X e1 t1) (F : GFn X.prog X.w X.K X.mg X.base k f fd ps sp) (room : Room k X.A)
    (hgf : Gl X x) (hmf : X.mg x = some (.ref f)) (hk : PySem.W.keepIn X.K (.ref f) = true) (hb : Binds X.K fd ps []) (ha : PA X (e :: es) ta) (hdb : (x == ("__debug__" : Str)) = false := by decide)
    (hs : starEach [e1, .Call (.Name x px) (e :: es) [] pos2] X.env = (false, eval e1 X.env) :: starEach [.Call (.Name x px) (e :: es) [] pos2] X.env := by rfl) (hpl : (backTo pos (starEach [.Call (.Name x px) (e :: es) [] pos2] X.env)).any (·.1) = false := by rfl)
    (hs2 : starEach [.Call (.Name x px) (e :: es) [] pos2] X.env = (false, eval (.Call (.Name x px) (e :: es) [] pos2) X.env) :: starEach [] X.env := by rfl)
    (he : starEach (e :: es) X.env = (false, eval e X.env) :: starEach es X.env := by rfl) (hpl2 : (backTo pos2 (starEach es X.env)).any (·.1) = false := by rfl) :
    PI X tg (.Call (.Name "zip" p) [e1, .Call (.Name x px) (e :: es) [] pos2] [] pos) (iZipG X.K t1 sp E ta) := by
  refine ⟨fun pins s σ H R I h => ?_⟩
  refine Call_ (ld_blt I hg hm PyProof.Rows.boot_zip (PyProof.Rows.callWith_type1 ?_ hs hpl))
  rw [hs]
  show wpAny _ _ (spliced ((false, eval e1 X.env) :: backTo pos (starEach [.Call (.Name x px) (e :: es) [] pos2] X.env))) _ _ s
  refine Calls.spliced_cons (thn (he1.run pins s σ H _ I h) fun u s1 got => ?_)
  obtain ⟨y, H1, I1, r1, l, ey, q1⟩ := got
  subst ey
  cases r1
  rw [hs2]
  show wpAny _ _ (spliced ((false, eval (.Call (.Name x px) (e :: es) [] pos2) X.env) :: backTo pos (starEach [] X.env))) _ _ s1
  refine Calls.spliced_cons ?_
  refine wpAny_Call_Name_kw (ld_glob I1 hgf hmf ?_ hdb)
  refine PySem.W.callWith_K (h₀ := X.base) I1.ok.mod.kin hk (thn (ha.run pos2 pins s1 σ H1 _ I1 q1) fun us s2 got2 => ?_) he hpl2
  obtain ⟨vs, H2, I2, r2, hq, hsp, hR⟩ := got2
  refine ⟨I2.kIn, wpAny_mono (made_gfn F room hb I2 r2 hsp) (fun v s3 made => ?_) fun _ _ z => z⟩
  refine Calls.spliced_nil ?_
  obtain ⟨a, g, c, rfl, big, small, isg, gen, os, bare, lim, keep, _⟩ := made
  have I3 := made_inv I2 os bare keep
  obtain ⟨its, rv, pl, _⟩ := I3.list hq
  have llt : l < s3.heap.objs.size := pl.lt
  refine call_zg pl.isList isg fun h' hz hTI hTO h1 hk' => wpAny_pyIter_zip hz ?_
  have I4 : Inv X pins σ H2 { s3 with heap := h' } := I3.kept (t' := s3.toks) hk'
  refine ⟨s3.heap.objs.size + 3, [s3.heap.objs.size + 3, s3.heap.objs.size + 1, s3.heap.objs.size + 2, s3.heap.objs.size], _, _, H2, rfl, I4, turn_none (l := l) (a := a) (Nat.ne_of_lt (Nat.lt_add_of_pos_right (by decide))) (Nat.ne_of_lt (Nat.lt_of_lt_of_le llt (Nat.le_add_right _ _))) (Nat.ne_of_lt llt), ⟨hz, hTI, hTO, h1⟩, fun c hc => ?_, hR⟩
  have e' : c = s3.heap.objs.size + 3 ∨ c = s3.heap.objs.size + 1 ∨ c = s3.heap.objs.size + 2 ∨ c = s3.heap.objs.size := by simpa using hc
  have hle : s3.heap.objs.size ≤ c := by
    rcases e' with z | z | z | z <;> rw [z]
    · exact Nat.le_add_right _ _
    · exact Nat.le_add_right _ _
    · exact Nat.le_add_right _ _
    · exact Nat.le_refl _
  exact I3.fpOk hle (I3.hok.fresh hle)
end
end SpX

set_option Elab.async false
set_option linter.all false
set_option maxRecDepth 100000
set_option maxHeartbeats 2000000
namespace SpX
open PySem PySem.Spec L2 StX RZ
/-- exponents lie there -/
def Lie (H : Hp) (ps : List Addr) (nss : List (List Int)) : Prop := ps.length = nss.length ∧ ∀ (i : Nat) (q : Addr) (ns : List Int), ps[i]? = some q → nss[i]? = some ns → ExpAt H q ns
theorem Lie.same {H H' : Hp} {ps : List Addr} {nss : List (List Int)} (h : Lie H ps nss) (s : Same H H') : Lie H' ps nss := ⟨h.1, fun i q ns x y => s _ _ (h.2 i q ns x y)⟩
theorem Lie.app {H : Hp} {ps qs : List Addr} {nss mss : List (List Int)} (h : Lie H ps nss) (k : Lie H qs mss) : Lie H (ps ++ qs) (nss ++ mss) := by
  refine ⟨by rw [List.length_append, List.length_append, h.1, k.1], fun i q ns x y => ?_⟩
  by_cases hi : i < ps.length
  · rw [List.getElem?_append_left hi] at x
    rw [List.getElem?_append_left (by rw [← h.1]; exact hi)] at y
    exact h.2 i q ns x y
  · rw [List.getElem?_append_right (by omega)] at x
    rw [List.getElem?_append_right (by rw [← h.1]; omega), ← h.1] at y
    exact k.2 _ q ns x y
def spUp (Z : Addr) : SpG := fun vs H Q E => ∃ d k : Int, vs = [.int d, .int k] ∧ (¬(1 ≤ d ∧ d ≤ 3) → E (.ref Z) none H) ∧ (1 ≤ d ∧ d ≤ 3 → -1 ≤ k ∧ k ≤ 16 ∧ ∀ ps H', Same H H' → Lie H' ps (ups d.toNat (k + 1).toNat) → Q (ps.map V.ref) H')
def t_up (K : PySem.W.Frag) (Z : Addr) (E : XK) : TGn :=
  tGThen (tPlain (tDrop (tCall (spChk Z) [] E (tCons (tVar 0) tNil))))
  (tGThen (tGFor (iRng1 (tCons (tOp (rI0 fun i j => .int (i + j)) (tVar 1) (tC (.int 1))) tNil)) (gName 2) (tGThen (tGFrom (tYfLst K (tCall (spMod Z 3) [] E0 (tCons (tVar 0) (tCons (tVar 2) tNil))))) tG0)) tG0)
section
variable {K : PySem.W.Frag} {Z : Addr}
theorem gfor_rng {ta : TA} {n : Nat} {g : TG} {tb : TGn} {D : GEnds} {ys : List V} {σ : L2.St} {H : Hp} (he : ∀ QA : List V → Hp → Prop, ta σ H QA = QA [.int n] H) (hn : n < 1000) (Pv : Nat → List V → L2.St → Hp → Prop) (h0 : Pv 0 ys σ H)
    (hs : ∀ (i : Nat) ys σ H, i < n → Pv i ys σ H → g (.int i) σ H fun σ2 H2 => tb { D with nx := Pv (i + 1), ct := Pv (i + 1), bk := D.nx } ys σ2 H2) (hd : ∀ ys σ H, Pv n ys σ H → D.nx ys σ H) : tGFor (iRng1 ta) g tb D ys σ H := by
  show ta σ H _
  rw [he]
  refine ⟨(n : Int), rfl, by omega, by omega, fun i m ys σ H' => m = n - i ∧ i ≤ n ∧ Pv i ys σ H', ⟨n, by simp, Nat.zero_le _, h0⟩, ?_⟩
  rintro i m ys σ H' ⟨rfl, hi, p⟩
  by_cases hlt : i < n
  · refine .inr ⟨by rw [Int.toNat_natCast]; exact hlt, Pv (i + 1), fun ys' σ' H2 z => ⟨n - (i + 1), by omega, rfl, hlt, z⟩, fun x H2 y => ?_⟩
    obtain ⟨rfl, rfl⟩ := y
    rw [Int.zero_add]
    exact hs i ys σ _ hlt p
  · have e : i = n := by omega
    subst e
    exact .inl ⟨by rw [Int.toNat_natCast]; exact Nat.le_refl _, hd ys σ H' p⟩
theorem pure_up (vs : List V) (H : Hp) (Q : List V → Hp → Prop) (E : XK) (h : spUp Z vs H Q E) : t_up K Z E { nx := fun ys _ H' => Q ys H', rt := fun ys v H' => v = .non ∧ Q ys H' } [] (start ["dimension", "degree", "each"] vs) H := by
  obtain ⟨d, k, rfl, ke, kk⟩ := h
  show t_up K Z E _ [] [some (.int d), some (.int k), none] H
  unfold t_up
  show tDrop _ _ _ _
  simp only [x_if, x_test, x_B, x_op, x_un, x_varS, x_var0, x_c, x_I0, x_I, x_U, x_bl, x_ret, x_next, x_asg, x_name, x_set0, x_setS, x_drop, x_cb, x_cons, x_nil, x_int1, x_abs1, x_max2, x_gcd, x_gsub, x_sl, x_part, x_nopart, x_int, x_call, x_lst, x_tup, x_not, x_and, x_or, x_andV, x_orV, x_notV, x_ifE, x_eqI, x_neI, x_eqB, x_neB, x_tbm, x_never, x_isN, x_notN, decide_eq_true_eq, Bool.false_eq_true, if_false, if_true, List.append_nil, List.nil_append, List.cons_append]
  refine ⟨d, rfl, ke, fun hd => ?_⟩
  obtain ⟨k0, k16, kk⟩ := kk hd
  show tGFor (iRng1 (tCons (tOp (rI0 fun i j => .int (i + j)) (tVar 1) (tC (.int 1))) tNil)) (gName 2) (tGThen (tGFrom (tYfLst K (tCall (spMod Z 3) [] E0 (tCons (tVar 0) (tCons (tVar 2) tNil))))) tG0) { nx := fun ys _ H' => Q ys H', rt := fun ys v H' => v = .non ∧ Q ys H' } [] [some (.int d), some (.int k), none] H
  obtain ⟨e, rfl⟩ : ∃ e : Nat, d = (e : Int) + 1 := ⟨(d - 1).toNat, by omega⟩
  obtain ⟨n, rfl⟩ : ∃ n : Nat, k = (n : Int) - 1 := ⟨(k + 1).toNat, by omega⟩
  have e1 : ((e : Int) + 1).toNat = e + 1 := by omega
  have e2 : ((n : Int) - 1 + 1) = n := by omega
  rw [e1, e2, Int.toNat_natCast] at kk
  refine gfor_rng (n := n) (fun QA => by simp only [x_if, x_test, x_B, x_op, x_un, x_varS, x_var0, x_c, x_I0, x_I, x_U, x_bl, x_ret, x_next, x_asg, x_name, x_set0, x_setS, x_drop, x_cb, x_cons, x_nil, x_int1, x_abs1, x_max2, x_gcd, x_gsub, x_sl, x_part, x_nopart, x_int, x_call, x_lst, x_tup, x_not, x_and, x_or, x_andV, x_orV, x_notV, x_ifE, x_eqI, x_neI, x_eqB, x_neB, x_tbm, x_never, x_isN, x_notN, decide_eq_true_eq, Bool.false_eq_true, if_false, if_true, List.append_nil, List.nil_append, List.cons_append, e2]) (by omega) (fun i ys σ H' => Same H H' ∧ (∃ w, σ = [some (.int ((e : Int) + 1)), some (.int ((n : Int) - 1)), w]) ∧ ∃ ps, ys = ps.map V.ref ∧ Lie H' ps (ups (e + 1) i)) ⟨Same.refl _, ⟨_, rfl⟩, [], rfl, rfl, fun i q ns x => by cases x⟩ ?_ ?_
  · rintro i ys σ H' hlt ⟨s, ⟨w, rfl⟩, ps, rfl, hps⟩
    simp only [x_name, x_setS, x_set0]
    show tYfLst K (tCall (spMod Z 3) [] E0 (tCons (tVar 0) (tCons (tVar 2) tNil))) _ _ _
    show tCall (spMod Z 3) [] E0 (tCons (tVar 0) (tCons (tVar 2) tNil)) _ _ _
    simp only [x_if, x_test, x_B, x_op, x_un, x_varS, x_var0, x_c, x_I0, x_I, x_U, x_bl, x_ret, x_next, x_asg, x_name, x_set0, x_setS, x_drop, x_cb, x_cons, x_nil, x_int1, x_abs1, x_max2, x_gcd, x_gsub, x_sl, x_part, x_nopart, x_int, x_call, x_lst, x_tup, x_not, x_and, x_or, x_andV, x_orV, x_notV, x_ifE, x_eqI, x_neI, x_eqB, x_neB, x_tbm, x_never, x_isN, x_notN, decide_eq_true_eq, Bool.false_eq_true, if_false, if_true, List.append_nil, List.nil_append, List.cons_append]
    refine ⟨by decide, _, _, rfl, fun z => absurd hd z, fun _ => ⟨by omega, by omega, by omega, fun p H3 s3 hp hl => ?_⟩⟩
    rw [e1, Int.toNat_natCast] at hl
    obtain ⟨qs, hq, hql, hqc⟩ := hl
    have l1 := ups_len e (by omega) (i + 1) (by omega)
    have e3 : ups (e + 1) (i + 1) = ups (e + 1) i ++ mons (e + 1) i := by
      unfold ups
      rw [List.range_succ, List.flatMap_append]
      simp
    rw [e3, List.length_append] at l1
    refine ⟨p, qs.map V.ref, rfl, hq, ?_, ?_⟩
    · rw [List.length_map, List.length_map, hps.1, hql]
      exact sl5 (by omega)
    · refine ⟨s.trans s3, ⟨_, rfl⟩, ps ++ qs, by rw [List.map_append], ?_⟩
      rw [e3]
      exact (hps.same s3).app ⟨hql, hqc⟩
  · rintro ys σ H' ⟨s, _, ps, rfl, hps⟩
    exact kk ps H' s hps
end
end SpX

set_option Elab.async false
set_option linter.all false
set_option maxRecDepth 100000
set_option maxHeartbeats 2000000
namespace SpX
open PySem PySem.Spec L2 StX RZ
theorem x_listG {sp : SpG} {E : XK} {t : TA} {σ : L2.St} {H : Hp} {Q : VK} : tListG (tCallG sp [] E t) σ H Q = t σ H fun vs H1 => sp (vs ++ []) H1 (fun out H2 => ∀ p, H2 p = none → Q (.ref p) (upd H2 p (.lst out))) E := rfl
def spLists (Z : Addr) : Sp := fun vs H Q _ => ∃ d k : Int, vs = [.int d, .int k] ∧ 1 ≤ d ∧ d ≤ 3 ∧ -1 ≤ k ∧ k ≤ 16 ∧ ∀ H', Same H H' → Q (.bl true) H'
def t_lists (K : PySem.W.Frag) (Z : Addr) (E : XK) : TS :=
    (tSeq (tIfS (tNot (tB (tCall spListed [] E0 (tCons (tListG (tCallG (spUp Z) [] E0 (tCons (tVar 0) (tCons (tVar 1) tNil)))) (tCons (tVar 0) (tCons (tC (.int 0)) (tCons (tVar 1) (tCons (tCall spLmany [] E0 (tCons (tVar 0) (tCons (tVar 1) tNil))) tNil)))))))) (tRet (tC (.bl false))) tNext)
    (tSeq (tIfS (tTest (tOp (rI0 fun i j => .bl (decide (i < j))) (tVar 1) (tC (.int 0)))) (tRet (tC (.bl true))) tNext)
    (tSeq (tAsg (tOp (rI0 fun i j => .int (i - j)) (tCall spLmany [] E0 (tCons (tVar 0) (tCons (tVar 1) tNil))) (tCall spLmany [] E0 (tCons (tVar 0) (tCons (tOp (rI0 fun i j => .int (i - j)) (tVar 1) (tC (.int 1))) tNil)))) (gName 2))
    (tSeq (tAsg (tCall (spMod Z 3) [] E0 (tCons (tVar 0) (tCons (tVar 1) tNil))) (gName 3))
    (tSeq (tIfS (tNot (tB (tCall spListed [] E0 (tCons (tVar 3) (tCons (tVar 0) (tCons (tVar 1) (tCons (tVar 1) (tCons (tVar 2) tNil)))))))) (tRet (tC (.bl false))) tNext)
    (tSeq (tAsg (tCB rTupA (tCons (tLc (iTup K (tOp rIx1 (tVar 3) (tC (.int 0)))) (gName 4) tYes (tOp (rI0 fun i j => .int (i + j)) (tVar 4) (tC (.int 1))) [4]) tNil)) (gSub (tVar 3) (tC (.int 0)) rSetL))
    (tSeq (tDrop (tBM K "list" rAppend (tVar 3) (tCons (tOp rIx1 (tVar 3) (tC (.int 0))) tNil)))
    (tRet (tCall spListed [] E0 (tCons (tCall (spMod Z 3) [] E0 (tCons (tVar 0) (tCons (tVar 1) tNil))) (tCons (tVar 0) (tCons (tVar 1) (tCons (tVar 1) (tCons (tVar 2) tNil))))))))))))))
section
variable {K : PySem.W.Frag} {Z : Addr}
theorem fresh_same {H H' : Hp} {p : Addr} (s : Same H H') (h : H' p = none) : H p = none := by
  cases e : H p with
  | none => rfl
  | some o => rw [s _ _ e] at h; cases h
theorem pure_lists (vs : List V) (H : Hp) (Q : VK) (E : XK) (h : spLists Z vs H Q E) : t_lists K Z E { nx := fun _ H' => Q .non H', rt := Q } (start ["dimension", "high", "many", "told", "exponent"] vs) H := by
  obtain ⟨d, k, rfl, d1, d3, k0, k16, kk⟩ := h
  show t_lists K Z E _ [some (.int d), some (.int k), none, none, none] H
  obtain ⟨e, rfl⟩ : ∃ e : Nat, d = (e : Int) + 1 := ⟨(d - 1).toNat, by omega⟩
  obtain ⟨n, rfl⟩ : ∃ n : Nat, k = (n : Int) - 1 := ⟨(k + 1).toNat, by omega⟩
  have e1 : ((e : Int) + 1).toNat = e + 1 := by omega
  have e2 : ((n : Int) - 1 + 1).toNat = n := by omega
  have ou : InOrder (ups (e + 1) n) ((e : Int) + 1) 0 ((n : Int) - 1) := InOrder.of (ups_chk e (by omega) n (by omega))
  unfold t_lists
  rw [x_seq]
  simp only [x_if, x_test, x_B, x_op, x_un, x_varS, x_var0, x_c, x_I0, x_I, x_U, x_bl, x_ret, x_next, x_asg, x_name, x_set0, x_setS, x_drop, x_cb, x_cons, x_nil, x_int1, x_abs1, x_max2, x_gcd, x_gsub, x_sl, x_part, x_nopart, x_int, x_call, x_lst, x_tup, x_not, x_and, x_or, x_andV, x_orV, x_notV, x_ifE, x_eqI, x_neI, x_eqB, x_neB, x_tbm, x_never, x_isN, x_notN, decide_eq_true_eq, Bool.false_eq_true, if_false, if_true, List.append_nil, List.nil_append, List.cons_append, x_listG]
  refine ⟨_, _, rfl, fun z => absurd ⟨d1, d3⟩ z, fun _ => ⟨k0, k16, fun ps H1 s1 hps p hp => ?_⟩⟩
  rw [e1, e2] at hps
  have s2 : Same H (upd H1 p (.lst (ps.map V.ref))) := Same.new' s1 hp
  have l2 : ListedAt (upd H1 p (.lst (ps.map V.ref))) p (ups (e + 1) n) := ⟨ps, upd_same, hps.1, fun i q ns x y => Same.new hp _ _ (hps.2 i q ns x y)⟩
  generalize upd H1 p (.lst (ps.map V.ref)) = H2 at s2 l2 ⊢
  refine ⟨_, _, rfl, by omega, by omega, ?_⟩
  simp only [x_if, x_test, x_B, x_op, x_un, x_varS, x_var0, x_c, x_I0, x_I, x_U, x_bl, x_ret, x_next, x_asg, x_name, x_set0, x_setS, x_drop, x_cb, x_cons, x_nil, x_int1, x_abs1, x_max2, x_gcd, x_gsub, x_sl, x_part, x_nopart, x_int, x_call, x_lst, x_tup, x_not, x_and, x_or, x_andV, x_orV, x_notV, x_ifE, x_eqI, x_neI, x_eqB, x_neB, x_tbm, x_never, x_isN, x_notN, decide_eq_true_eq, Bool.false_eq_true, if_false, if_true, List.append_nil, List.nil_append, List.cons_append]
  refine ⟨p, ups (e + 1) n, _, _, _, by rw [ups_many e (by omega) n (by omega)], l2, ou, by omega, true, rfl, ?_⟩
  rw [if_neg (by decide)]
  rw [x_seq]
  simp only [x_if, x_test, x_B, x_op, x_un, x_varS, x_var0, x_c, x_I0, x_I, x_U, x_bl, x_ret, x_next, x_asg, x_name, x_set0, x_setS, x_drop, x_cb, x_cons, x_nil, x_int1, x_abs1, x_max2, x_gcd, x_gsub, x_sl, x_part, x_nopart, x_int, x_call, x_lst, x_tup, x_not, x_and, x_or, x_andV, x_orV, x_notV, x_ifE, x_eqI, x_neI, x_eqB, x_neB, x_tbm, x_never, x_isN, x_notN, decide_eq_true_eq, Bool.false_eq_true, if_false, if_true, List.append_nil, List.nil_append, List.cons_append]
  by_cases kn : (n : Int) - 1 < 0
  · rw [if_pos kn]
    exact kk H2 s2
  rw [if_neg kn]
  obtain ⟨n, rfl⟩ : ∃ m : Nat, n = m + 1 := ⟨n - 1, by omega⟩
  have e3 : (((n + 1 : Nat) : Int) - 1) = n := by omega
  rw [e3] at *
  rw [x_seq]
  simp only [x_if, x_test, x_B, x_op, x_un, x_varS, x_var0, x_c, x_I0, x_I, x_U, x_bl, x_ret, x_next, x_asg, x_name, x_set0, x_setS, x_drop, x_cb, x_cons, x_nil, x_int1, x_abs1, x_max2, x_gcd, x_gsub, x_sl, x_part, x_nopart, x_int, x_call, x_lst, x_tup, x_not, x_and, x_or, x_andV, x_orV, x_notV, x_ifE, x_eqI, x_neI, x_eqB, x_neB, x_tbm, x_never, x_isN, x_notN, decide_eq_true_eq, Bool.false_eq_true, if_false, if_true, List.append_nil, List.nil_append, List.cons_append]
  refine ⟨_, _, rfl, by omega, by omega, ?_⟩
  simp only [x_if, x_test, x_B, x_op, x_un, x_varS, x_var0, x_c, x_I0, x_I, x_U, x_bl, x_ret, x_next, x_asg, x_name, x_set0, x_setS, x_drop, x_cb, x_cons, x_nil, x_int1, x_abs1, x_max2, x_gcd, x_gsub, x_sl, x_part, x_nopart, x_int, x_call, x_lst, x_tup, x_not, x_and, x_or, x_andV, x_orV, x_notV, x_ifE, x_eqI, x_neI, x_eqB, x_neB, x_tbm, x_never, x_isN, x_notN, decide_eq_true_eq, Bool.false_eq_true, if_false, if_true, List.append_nil, List.nil_append, List.cons_append]
  refine ⟨_, _, rfl, by omega, by omega, ?_⟩
  simp only [x_if, x_test, x_B, x_op, x_un, x_varS, x_var0, x_c, x_I0, x_I, x_U, x_bl, x_ret, x_next, x_asg, x_name, x_set0, x_setS, x_drop, x_cb, x_cons, x_nil, x_int1, x_abs1, x_max2, x_gcd, x_gsub, x_sl, x_part, x_nopart, x_int, x_call, x_lst, x_tup, x_not, x_and, x_or, x_andV, x_orV, x_notV, x_ifE, x_eqI, x_neI, x_eqB, x_neB, x_tbm, x_never, x_isN, x_notN, decide_eq_true_eq, Bool.false_eq_true, if_false, if_true, List.append_nil, List.nil_append, List.cons_append]
  have om : InOrder (mons (e + 1) n) ((e : Int) + 1) n n := InOrder.of (mons_chk e (by omega) n (by omega))
  rw [← mons_many e (by omega) n (by omega)]
  rw [x_seq]
  simp only [x_if, x_test, x_B, x_op, x_un, x_varS, x_var0, x_c, x_I0, x_I, x_U, x_bl, x_ret, x_next, x_asg, x_name, x_set0, x_setS, x_drop, x_cb, x_cons, x_nil, x_int1, x_abs1, x_max2, x_gcd, x_gsub, x_sl, x_part, x_nopart, x_int, x_call, x_lst, x_tup, x_not, x_and, x_or, x_andV, x_orV, x_notV, x_ifE, x_eqI, x_neI, x_eqB, x_neB, x_tbm, x_never, x_isN, x_notN, decide_eq_true_eq, Bool.false_eq_true, if_false, if_true, List.append_nil, List.nil_append, List.cons_append]
  refine ⟨by decide, _, _, rfl, fun z => absurd ⟨d1, d3⟩ z, fun _ => ⟨by omega, by omega, by omega, fun q H3 s3 hq hl => ?_⟩⟩
  rw [e1, Int.toNat_natCast] at hl
  obtain ⟨qs, h1, h2, h3⟩ := id hl
  obtain ⟨l0, l1⟩ := mons_len e (by omega) n (by omega)
  rw [x_seq]
  simp only [x_if, x_test, x_B, x_op, x_un, x_varS, x_var0, x_c, x_I0, x_I, x_U, x_bl, x_ret, x_next, x_asg, x_name, x_set0, x_setS, x_drop, x_cb, x_cons, x_nil, x_int1, x_abs1, x_max2, x_gcd, x_gsub, x_sl, x_part, x_nopart, x_int, x_call, x_lst, x_tup, x_not, x_and, x_or, x_andV, x_orV, x_notV, x_ifE, x_eqI, x_neI, x_eqB, x_neB, x_tbm, x_never, x_isN, x_notN, decide_eq_true_eq, Bool.false_eq_true, if_false, if_true, List.append_nil, List.nil_append, List.cons_append]
  refine ⟨q, mons (e + 1) n, _, _, _, rfl, hl, om, by omega, true, rfl, ?_⟩
  rw [if_neg (by decide)]
  rw [x_seq]
  have s4 := s2.trans s3
  have hq0 := fresh_same s2 hq
  obtain ⟨r, hr⟩ : ∃ r, qs[0]? = some r := ⟨qs[0]'(by omega), List.getElem?_eq_getElem (by omega)⟩
  obtain ⟨ns, hns⟩ : ∃ ns, (mons (e + 1) n)[0]? = some ns := ⟨(mons (e + 1) n)[0]'(by omega), List.getElem?_eq_getElem (by omega)⟩
  have hr3 := h3 0 r ns hr hns
  have at_ : atI (qs.map V.ref) 0 = some (.ref r) := atI_nat (j := 0) (v := V.ref r) (by rw [List.getElem?_map, hr]; rfl)
  have ln : ns.length ≤ 3 := by
    have := om.len ns (List.mem_of_getElem? hns)
    omega
  rw [x_asg, x_cb, x_cons]
  refine lc_pureT (xs := ns.map V.int) (fun j => V.int (ns.getD j 0 + 1)) (fun Q => by simp only [x_if, x_test, x_B, x_op, x_un, x_varS, x_var0, x_c, x_I0, x_I, x_U, x_bl, x_ret, x_next, x_asg, x_name, x_set0, x_setS, x_drop, x_cb, x_cons, x_nil, x_int1, x_abs1, x_max2, x_gcd, x_gsub, x_sl, x_part, x_nopart, x_int, x_call, x_lst, x_tup, x_not, x_and, x_or, x_andV, x_orV, x_notV, x_ifE, x_eqI, x_neI, x_eqB, x_neB, x_tbm, x_never, x_isN, x_notN, decide_eq_true_eq, Bool.false_eq_true, if_false, if_true, List.append_nil, List.nil_append, List.cons_append, x_ix h1 at_]) hr3 (by rw [List.length_map]; omega) (fun j x H' QQ hj s kq => ?_) fun D H4 s5 hD => ?_
  · obtain ⟨z, hz, rfl⟩ := int_at hj
    show tOp _ (tVar 4) (tC (.int 1)) [some (.int _), some (.int _), some (.int _), some (.ref q), some (.int z)] H' QQ
    simp only [x_if, x_test, x_B, x_op, x_un, x_varS, x_var0, x_c, x_I0, x_I, x_U, x_bl, x_ret, x_next, x_asg, x_name, x_set0, x_setS, x_drop, x_cb, x_cons, x_nil, x_int1, x_abs1, x_max2, x_gcd, x_gsub, x_sl, x_part, x_nopart, x_int, x_call, x_lst, x_tup, x_not, x_and, x_or, x_andV, x_orV, x_notV, x_ifE, x_eqI, x_neI, x_eqB, x_neB, x_tbm, x_never, x_isN, x_notN, decide_eq_true_eq, Bool.false_eq_true, if_false, if_true, List.append_nil, List.nil_append, List.cons_append]
    have e : ns.getD j 0 = z := by rw [List.getD_eq_getElem?_getD, hz]; rfl
    rw [e] at kq
    exact kq
  · rw [x_nil, x_tupL hD]
    intro T hT
    have h14 : (upd H4 T (.tup ((List.range (ns.map V.int).length).map fun j => V.int (ns.getD j 0 + 1)))) q = some (.lst (qs.map V.ref)) := Same.new' s5 hT _ _ h1
    have s6 : Same H (upd H4 T (.tup ((List.range (ns.map V.int).length).map fun j => V.int (ns.getD j 0 + 1)))) := s4.trans (Same.new' s5 hT)
    generalize upd H4 T (.tup ((List.range (ns.map V.int).length).map fun j => V.int (ns.getD j 0 + 1))) = H5 at h14 s6 ⊢
    simp only [x_if, x_test, x_B, x_op, x_un, x_varS, x_var0, x_c, x_I0, x_I, x_U, x_bl, x_ret, x_next, x_asg, x_name, x_set0, x_setS, x_drop, x_cb, x_cons, x_nil, x_int1, x_abs1, x_max2, x_gcd, x_gsub, x_sl, x_part, x_nopart, x_int, x_call, x_lst, x_tup, x_not, x_and, x_or, x_andV, x_orV, x_notV, x_ifE, x_eqI, x_neI, x_eqB, x_neB, x_tbm, x_never, x_isN, x_notN, decide_eq_true_eq, Bool.false_eq_true, if_false, if_true, List.append_nil, List.nil_append, List.cons_append]
    rw [x_setL h14 (show ixN _ 0 = some 0 from ixN_nat (i := 0) (by rw [List.length_map]; omega))]
    have h15 : (upd H5 q (.lst ((qs.map V.ref).set 0 (.ref T)))) q = some (.lst ((qs.map V.ref).set 0 (.ref T))) := upd_same
    have s7 : Same H (upd H5 q (.lst ((qs.map V.ref).set 0 (.ref T)))) := fun b o w => by
      rw [upd_ne (ne_of_none w hq0)]
      exact s6 _ _ w
    generalize upd H5 q (.lst ((qs.map V.ref).set 0 (.ref T))) = H6 at h15 s7 ⊢
    rw [x_seq]
    have at2 : atI ((qs.map V.ref).set 0 (.ref T)) 0 = some (.ref T) := atI_nat (j := 0) (v := V.ref T) (by rw [List.getElem?_set_self (by rw [List.length_map]; omega)])
    simp only [x_if, x_test, x_B, x_op, x_un, x_varS, x_var0, x_c, x_I0, x_I, x_U, x_bl, x_ret, x_next, x_asg, x_name, x_set0, x_setS, x_drop, x_cb, x_cons, x_nil, x_int1, x_abs1, x_max2, x_gcd, x_gsub, x_sl, x_part, x_nopart, x_int, x_call, x_lst, x_tup, x_not, x_and, x_or, x_andV, x_orV, x_notV, x_ifE, x_eqI, x_neI, x_eqB, x_neB, x_tbm, x_never, x_isN, x_notN, decide_eq_true_eq, Bool.false_eq_true, if_false, if_true, List.append_nil, List.nil_append, List.cons_append, x_ix h15 at2]
    rw [x_append h15 (by rw [List.length_set, List.length_map, h2]; exact Nat.lt_of_lt_of_le l1 (by decide))]
    have s8 : Same H (upd H6 q (.lst ((qs.map V.ref).set 0 (.ref T) ++ [.ref T]))) := fun b o w => by
      rw [upd_ne (ne_of_none w hq0)]
      exact s7 _ _ w
    generalize upd H6 q (.lst ((qs.map V.ref).set 0 (.ref T) ++ [.ref T])) = H7 at s8 ⊢
    refine ⟨ty_lst h15, ?_⟩
    refine ⟨by decide, _, _, rfl, fun z => absurd ⟨d1, d3⟩ z, fun _ => ⟨by omega, by omega, by omega, fun u H8 s9 hu hlu => ?_⟩⟩
    rw [e1, Int.toNat_natCast] at hlu
    exact ⟨u, mons (e + 1) n, _, _, _, rfl, hlu, om, by omega, kk _ (s8.trans s9)⟩
end
end SpX

set_option Elab.async false
set_option linter.all false
set_option maxRecDepth 100000
set_option maxHeartbeats 4000000
/-! The caught exception's classes; list(generator) inside a try. -/
namespace SpX
open PySem PySem.Spec PyProof.Rows L2
/-- isinstance of the caught exception, its class being the one at D -/
def rCaught (K : PySem.W.Frag) (D a : Addr) (cls : Value) (d : Option Addr) : List V → Hp → VK → Prop := fun xs H Q => cls = .ref D ∧ d = none ∧ rIsE K D a xs H Q
theorem call_caught {X : Cx} {a D : Addr} {oe : Obj} {cls : Value} {d : Option Addr} {pn : List (Addr × Obj)} (C : ExcC X.K D) (hz : Zc cls d oe) (hf : ∃ vs, oe.data = .fields vs) : CallR (X.suite a ((a, oe) :: pn)) (.builtin "isinstance") (rCaught X.K D a cls d) := by
  intro pins s σ H xs us Q I r h
  obtain ⟨rfl, rfl, h⟩ := h
  exact call_isE C hz hf pins s σ H xs us Q I r h
theorem caught_of {K : PySem.W.Frag} {Z a c : Addr} {b : Bool} {H : Hp} {Q : VK} (h : PySem.W.kitOne K (.ref Z) (.ref c) = some b) (k : Q (.bl b) H) : rCaught K Z a (.ref Z) none [.ref a, .ref c] H Q :=
  ⟨rfl, rfl, .ref c, .ref c, b, rfl, fun u r => r, h, k⟩
theorem caught_ty {K : PySem.W.Frag} {Z a : Addr} {c : String} {b : Bool} {H : Hp} {Q : VK} (h : PySem.W.kitOne K (.ref Z) (.type c) = some b) (k : Q (.bl b) H) : rCaught K Z a (.ref Z) none [.ref a, .ty c] H Q :=
  ⟨rfl, rfl, .ty c, .type c, b, rfl, fun u r => r, h, k⟩
/-- the way out of a call whose values of names are not told: it serves all of them -/
def xAll (Z : Addr) (n : Nat) (W : WX) : XK := fun cls d H => cls = .ref Z ∧ ∀ σ : L2.St, σ.length = n → W cls d σ H
theorem passAll {X : Cx} {W : WX} {Z : Addr} {n : Nat} (tk : Takes X W) (hn : X.N.length = n) : Passes (L2.CX X.prog X.w) X (xAll Z n W) := fun _ σ _ _ e s' I c => tk e s' (XE.of_call I (fun _ _ _ h => h.2 σ (by rw [I.len, hn])) c)
theorem noStop_all {K : PySem.W.Frag} {W : WX} {Z : Addr} {n : Nat} (h : PySem.W.subIn K (.ref Z) (.type "StopIteration") = some false) : NoStop K (xAll Z n W) := fun cls d H k => by
  rw [k.1]
  exact h
theorem x_callS {sp : Sp} {E : L2.St → XK} {t : TA} {σ : L2.St} {H : Hp} {Q : VK} : tCallS sp E t σ H Q = t σ H fun vs H1 => sp vs H1 Q (E σ) := rfl
end SpX

set_option Elab.async false
set_option linter.all false
set_option maxRecDepth 100000
set_option maxHeartbeats 4000000
namespace SpX
open PySem PySem.Spec L2 StX RZ
/-! ### the refused -/
structure Wrong (kind : Int) (ns ms : List Int) (d : Int) : Prop where
  k0 : 0 ≤ kind
  k4 : kind ≤ 4
  d : ¬(1 ≤ d ∧ d ≤ 3)
  two : kind = 0 ∨ kind = 1 → ¬ Pair ns ms
  one : kind = 4 → ¬(1 ≤ ns.length ∧ ns.length ≤ 3)
def spRefused (Z : Addr) : Sp := fun vs H Q _ => ∃ (kind : Int) (p q : Addr) (ns ms : List Int) (d high : Int), vs = [.int kind, .ref p, .ref q, .int d, .int high] ∧ ExpAt H p ns ∧ ExpAt H q ms ∧ Wrong kind ns ms d ∧ ∀ H', Same H H' → Q (.bl true) H'
/-- the body of the try, its way out W -/
def t_tryb (Z : Addr) (W : WX) : TS :=
  tSeq (tIfS (tTest (tOp rEq (tVar 0) (tC (.int 0)))) (tDrop (tCallS (spBefore Z) (WE W) (tCons (tVar 1) (tCons (tVar 2) tNil)))) tNext)
  (tSeq (tIfS (tTest (tOp rEq (tVar 0) (tC (.int 1)))) (tDrop (tCallS (spDivides Z) (WE W) (tCons (tVar 1) (tCons (tVar 2) tNil)))) tNext)
  (tSeq (tIfS (tTest (tOp rEq (tVar 0) (tC (.int 2)))) (tDrop (tCallS (spMod Z 3) (WE W) (tCons (tVar 3) (tCons (tCB rMax2 (tCons (tC (.int 0)) (tCons (tVar 4) tNil))) tNil)))) tNext)
  (tSeq (tIfS (tTest (tOp rEq (tVar 0) (tC (.int 3)))) (tDrop (tListG (tCallG (spUp Z) [] (xAll Z 8 W) (tCons (tVar 3) (tCons (tVar 4) tNil))))) tNext)
  (tIfS (tTest (tOp rEq (tVar 0) (tC (.int 4)))) (tDrop (tCallS (spMfac Z) (WE W) (tCons (tVar 1) tNil))) tNext))))
/-- the suite of the clause -/
def t_caught (K : PySem.W.Frag) (Z BM BI : Addr) (a : Addr) (cls : Value) (d : Option Addr) : TS :=
  tSeq (tAsg (tOrV (tCB (rCaught K Z a cls d) (tCons (tVar 6) (tCons (tC (.ref BM)) tNil))) (tCB (rCaught K Z a cls d) (tCons (tVar 6) (tCons (tC (.ref BI)) tNil)))) (gName 7))
  (tAsg (tLst (tCons (tCB (rCaught K Z a cls d) (tCons (tVar 6) (tCons (tC (.ref Z)) tNil))) (tCons (tCB (rCaught K Z a cls d) (tCons (tVar 6) (tCons (tC (.ty "ValueError")) tNil))) (tCons (tVar 7) tNil)))) (gName 5))
def t_try (K : PySem.W.Frag) (Z BM BI SE : Addr) : TS := fun D σ H => t_tryb Z (wAs K (.ref SE) 6 (t_caught K Z BM BI) (fun _ _ _ _ => False) D) D σ H
def t_refused (K : PySem.W.Frag) (Z BM BI SE : Addr) : TS :=
  tSeq (tAsg (tLst tNil) (gName 5)) (tSeq (t_try K Z BM BI SE) (tRet (tOp (rEqD K) (tVar 5) (tLst (tCons (tC (.bl true)) (tCons (tC (.bl true)) (tCons (tC (.bl false)) tNil)))))))
/-- what the text says of the error's classes -/
structure ExcTxt (K : PySem.W.Frag) (Z BM BI SE : Addr) : Prop where
  cz : ExcC K Z
  is : PySem.W.exmOne K (.ref Z) (.ref SE) = some true
  ve : PySem.W.kitOne K (.ref Z) (.type "ValueError") = some true
  nb : PySem.W.kitOne K (.ref Z) (.ref BM) = some false
  nt : PySem.W.kitOne K (.ref Z) (.ref BI) = some false
theorem pure_refused {K : PySem.W.Frag} {Z BM BI SE : Addr} (T : ExcTxt K Z BM BI SE) (vs : List V) (H : Hp) (Q : VK) (E : XK) (h : spRefused Z vs H Q E) : t_refused K Z BM BI SE { nx := fun _ H' => Q .non H', rt := Q } (start ["kind", "first", "second", "dimension", "high", "flags", "e", "others"] vs) H := by
  obtain ⟨kind, p, q, ns, ms, d, high, rfl, hp, hq, wr, k⟩ := h
  show t_refused K Z BM BI SE _ [some (.int kind), some (.ref p), some (.ref q), some (.int d), some (.int high), none, none, none] H
  unfold t_refused
  rw [x_seq]
  simp only [x_asg, x_lst, x_nil, x_name, x_setS, x_set0]
  refine ⟨by decide, fun fl hfl => ?_⟩
  rw [x_seq]
  show t_tryb Z _ _ _ _
  have s0 : Same H (upd H fl (.lst [])) := Same.new hfl
  have e0 : (upd H fl (.lst [])) fl = some (.lst []) := upd_same
  generalize upd H fl (.lst []) = H0 at s0 e0 ⊢
  -- whatever raises, the clause takes it
  have caught : ∀ (σ : L2.St) H1, σ.length = 8 → Same H0 H1 → wAs K (.ref SE) 6 (t_caught K Z BM BI) (fun _ _ _ _ => False)
      { nx := fun σ H' => tRet (tOp (rEqD K) (tVar 5) (tLst (tCons (tC (.bl true)) (tCons (tC (.bl true)) (tCons (tC (.bl false)) tNil))))) { nx := fun _ H' => Q .non H', rt := Q } σ H', rt := Q } (.ref Z) none σ H1 := by
    intro σ H1 hσ s1
    obtain ⟨x0, x1, x2, x3, x4, x5, x6, x7, rfl⟩ : ∃ x0 x1 x2 x3 x4 x5 x6 x7 : Option V, σ = [x0, x1, x2, x3, x4, x5, x6, x7] := by
      match σ, hσ with
      | [a, b, c, d, e, f, g, h], _ => exact ⟨a, b, c, d, e, f, g, h, rfl⟩
    refine ⟨true, T.is, fun _ a ha => ?_, fun h => Bool.noConfusion h⟩
    unfold t_caught
    simp only [x_seq, x_if, x_test, x_B, x_op, x_un, x_varS, x_var0, x_c, x_I0, x_I, x_U, x_bl, x_ret, x_next, x_asg, x_name, x_set0, x_setS, x_drop, x_cb, x_cons, x_nil, x_int1, x_abs1, x_max2, x_gcd, x_gsub, x_sl, x_part, x_nopart, x_int, x_call, x_lst, x_tup, x_not, x_and, x_or, x_andV, x_orV, x_notV, x_ifE, x_eqI, x_neI, x_eqB, x_neB, x_tbm, x_never, x_isN, x_notN, decide_eq_true_eq, Bool.false_eq_true, if_false, if_true, List.append_nil, List.nil_append, List.cons_append]
    refine caught_of T.nb ?_
    simp only [x_seq, x_if, x_test, x_B, x_op, x_un, x_varS, x_var0, x_c, x_I0, x_I, x_U, x_bl, x_ret, x_next, x_asg, x_name, x_set0, x_setS, x_drop, x_cb, x_cons, x_nil, x_int1, x_abs1, x_max2, x_gcd, x_gsub, x_sl, x_part, x_nopart, x_int, x_call, x_lst, x_tup, x_not, x_and, x_or, x_andV, x_orV, x_notV, x_ifE, x_eqI, x_neI, x_eqB, x_neB, x_tbm, x_never, x_isN, x_notN, decide_eq_true_eq, Bool.false_eq_true, if_false, if_true, List.append_nil, List.nil_append, List.cons_append]
    refine caught_of T.nt ?_
    refine caught_of kit_self ?_
    try simp only [x_seq, x_if, x_test, x_B, x_op, x_un, x_varS, x_var0, x_c, x_I0, x_I, x_U, x_bl, x_ret, x_next, x_asg, x_name, x_set0, x_setS, x_drop, x_cb, x_cons, x_nil, x_int1, x_abs1, x_max2, x_gcd, x_gsub, x_sl, x_part, x_nopart, x_int, x_call, x_lst, x_tup, x_not, x_and, x_or, x_andV, x_orV, x_notV, x_ifE, x_eqI, x_neI, x_eqB, x_neB, x_tbm, x_never, x_isN, x_notN, decide_eq_true_eq, Bool.false_eq_true, if_false, if_true, List.append_nil, List.nil_append, List.cons_append]
    refine caught_ty T.ve ?_
    try simp only [x_seq, x_if, x_test, x_B, x_op, x_un, x_varS, x_var0, x_c, x_I0, x_I, x_U, x_bl, x_ret, x_next, x_asg, x_name, x_set0, x_setS, x_drop, x_cb, x_cons, x_nil, x_int1, x_abs1, x_max2, x_gcd, x_gsub, x_sl, x_part, x_nopart, x_int, x_call, x_lst, x_tup, x_not, x_and, x_or, x_andV, x_orV, x_notV, x_ifE, x_eqI, x_neI, x_eqB, x_neB, x_tbm, x_never, x_isN, x_notN, decide_eq_true_eq, Bool.false_eq_true, if_false, if_true, List.append_nil, List.nil_append, List.cons_append]
    refine ⟨by show 3 ≤ sizeLine; decide, fun p hp => ⟨by show 3 ≤ sizeLine; decide, fun q hq => ?_⟩⟩
    have np : p ≠ q := fun e => by
      subst e
      rw [upd_same] at hq
      cases hq
    refine ⟨.list [.bool true, .bool true, .bool false], .list [.bool true, .bool true, .bool false], ?_, ?_, rfl, rfl, ?_⟩
    · exact .lst (SqL.at (by rw [upd_ne np, upd_same])) (.cons (.bl _) (.cons (.bl _) (.cons (.bl _) .nil)))
    · exact .lst (SqL.at upd_same) (.cons (.bl _) (.cons (.bl _) (.cons (.bl _) .nil)))
    · exact k _ (Same.new' (Same.new' (s0.trans s1) hp) hq)
  suffices body : ∀ W : WX, (∀ (σ : L2.St) H1, σ.length = 8 → Same H0 H1 → W (.ref Z) none σ H1) →
      ∀ D : Ends, t_tryb Z W D [some (.int kind), some (.ref p), some (.ref q), some (.int d), some (.int high), some (.ref fl), none, none] H0 from body _ caught _
  intro W hW D
  have hp0 := s0 _ _ hp
  have hq0 := s0 _ _ hq
  unfold t_tryb
  simp only [x_seq, x_if, x_test, x_B, x_op, x_un, x_varS, x_var0, x_c, x_I0, x_I, x_U, x_bl, x_ret, x_next, x_asg, x_name, x_set0, x_setS, x_drop, x_cb, x_cons, x_nil, x_int1, x_abs1, x_max2, x_gcd, x_gsub, x_sl, x_part, x_nopart, x_int, x_call, x_lst, x_tup, x_not, x_and, x_or, x_andV, x_orV, x_notV, x_ifE, x_eqI, x_neI, x_eqB, x_neB, x_tbm, x_never, x_isN, x_notN, decide_eq_true_eq, Bool.false_eq_true, if_false, if_true, List.append_nil, List.nil_append, List.cons_append, x_callS, x_listG]
  refine ite2 (fun g => ?_) fun g0 => ?_
  · exact ⟨p, q, ns, ms, rfl, hp0, hq0, fun _ => hW _ _ rfl (Same.refl _), fun z => absurd z (wr.two (.inl g))⟩
  refine ite2 (fun g => ?_) fun g1 => ?_
  · exact ⟨p, q, ns, ms, rfl, hp0, hq0, fun _ => hW _ _ rfl (Same.refl _), fun z => absurd z (wr.two (.inr g))⟩
  refine ite2 (fun g => ?_) fun g2 => ?_
  · exact ⟨by decide, _, _, rfl, fun _ => hW _ _ rfl (Same.refl _), fun z => absurd z wr.d⟩
  refine ite2 (fun g => ?_) fun g3 => ?_
  · exact ⟨_, _, rfl, fun _ => ⟨rfl, fun σ hσ => hW σ _ hσ (Same.refl _)⟩, fun z => absurd z wr.d⟩
  refine ite2 (fun g => ?_) fun g4 => ?_
  · exact ⟨p, ns, rfl, hp0, fun _ => hW _ _ rfl (Same.refl _), fun z => absurd z (wr.one g)⟩
  · have := wr.k0
    have := wr.k4
    omega
end SpX

set_option Elab.async false
set_option linter.all false
set_option maxRecDepth 100000
set_option maxHeartbeats 4000000
namespace SpX
open PySem PySem.Spec L2 StX RZ
def spIdle : Sp := fun vs H Q _ => ∃ d k : Int, vs = [.int d, .int k] ∧ ¬(1 ≤ d ∧ d ≤ 3) ∧ ∀ H', Same H H' → Q (.bl true) H'
def t_idleb (K : PySem.W.Frag) (Z : Addr) : TS :=
  tAsg (tOp (rEqD K) (tLc (iZipG K (tLst tNil) (spUp Z) (fun _ _ _ => True) (tCons (tVar 0) (tCons (tVar 1) tNil))) (gName 4) tYes (tVar 4) [4]) (tLst tNil)) (gName 2)
def t_idlec (K : PySem.W.Frag) (Z : Addr) (a : Addr) (cls : Value) (d : Option Addr) : TS :=
  tAsg (tNotV (tCB (rCaught K Z a cls d) (tCons (tVar 3) (tCons (tC (.ty "ValueError")) tNil)))) (gName 2)
def t_idle (K : PySem.W.Frag) (Z : Addr) : TS :=
  tSeq (tAsg (tC (.bl true)) (gName 2)) (tSeq (t_idleb K Z) (tRet (tVar 2)))
theorem pure_idle {K : PySem.W.Frag} {Z : Addr} (vs : List V) (H : Hp) (Q : VK) (E : XK) (h : spIdle vs H Q E) : t_idle K Z { nx := fun _ H' => Q .non H', rt := Q } (start ["dimension", "high", "idle", "e", "pair"] vs) H := by
  obtain ⟨d, k, rfl, hd, kk⟩ := h
  show t_idle K Z _ [some (.int d), some (.int k), none, none, none] H
  unfold t_idle t_idleb
  simp only [x_seq, x_if, x_test, x_B, x_op, x_un, x_varS, x_var0, x_c, x_I0, x_I, x_U, x_bl, x_ret, x_next, x_asg, x_name, x_set0, x_setS, x_drop, x_cb, x_cons, x_nil, x_int1, x_abs1, x_max2, x_gcd, x_gsub, x_sl, x_part, x_nopart, x_int, x_call, x_lst, x_tup, x_not, x_and, x_or, x_andV, x_orV, x_notV, x_ifE, x_eqI, x_neI, x_eqB, x_neB, x_tbm, x_never, x_isN, x_notN, decide_eq_true_eq, Bool.false_eq_true, if_false, if_true, List.append_nil, List.nil_append, List.cons_append]
  simp only [tLc, iZipG, x_seq, x_if, x_test, x_B, x_op, x_un, x_varS, x_var0, x_c, x_I0, x_I, x_U, x_bl, x_ret, x_next, x_asg, x_name, x_set0, x_setS, x_drop, x_cb, x_cons, x_nil, x_int1, x_abs1, x_max2, x_gcd, x_gsub, x_sl, x_part, x_nopart, x_int, x_call, x_lst, x_tup, x_not, x_and, x_or, x_andV, x_orV, x_notV, x_ifE, x_eqI, x_neI, x_eqB, x_neB, x_tbm, x_never, x_isN, x_notN, decide_eq_true_eq, Bool.false_eq_true, if_false, if_true, List.append_nil, List.nil_append, List.cons_append]
  refine ⟨by decide, fun l hl => ⟨l, rfl, ?_⟩⟩
  refine ⟨SqL.at upd_same, ⟨d, k, rfl, fun _ => trivial, fun z => absurd z hd⟩, fun D hD => ?_⟩
  have s1 : Same H (upd (upd H l (.lst [])) D (.lst [])) := Same.new' (Same.new hl) hD
  have e1 : (upd (upd H l (.lst [])) D (.lst [])) D = some (.lst []) := upd_same
  have el := Same.new (o := .lst []) hD _ _ (show (upd H l (.lst [])) l = some (.lst []) from upd_same)
  generalize upd (upd H l (.lst [])) D (.lst []) = H1 at s1 e1 el ⊢
  refine ⟨fun i m H' => H' = H1, ⟨0, rfl⟩, ?_⟩
  rintro i m H' rfl
  refine .inl ⟨SqL.at el, ?_⟩
  refine ⟨by decide, fun p hp => ?_⟩
  have np : D ≠ p := fun e => by
    subst e
    rw [e1] at hp
    cases hp
  refine ⟨.list [], .list [], .lst (SqL.at (by rw [upd_ne np]; exact e1)) .nil, .lst (SqL.at upd_same) .nil, rfl, rfl, ?_⟩
  exact kk _ (Same.new' s1 hp)
end SpX

set_option Elab.async false
set_option linter.all false
set_option maxRecDepth 100000
set_option maxHeartbeats 4000000
namespace SpX
open PySem PySem.Spec L2 StX RZ
/-- the law: a list of at most 63 ints is handed in, True comes out -/
def spLaw (K : PySem.W.Frag) : Sp := fun vs H Q _ => ∃ (a : Addr) (ns : List Int), vs = [.ref a] ∧ SqL K H a (ns.map V.int) ∧ ns.length ≤ 63 ∧ ∀ H', Q (.bl true) H'
def t_law (K : PySem.W.Frag) (Z : Addr) (E : XK) : TS :=
    (tSeq (tAsg (tCall (spPoolB K) [] E0 (tCons (tVar 0) tNil)) (gName 1))
    (tSeq (tAsg (tOp (rI0 fun i j => .int (i + j)) (tC (.int 1)) (tCall spTakeB [] E0 (tCons (tVar 1) (tCons (tC (.int 3)) tNil)))) (gName 2))
    (tSeq (tAsg (tOp (rI0 fun i j => .int (i - j)) (tCall spTakeB [] E0 (tCons (tVar 1) (tCons (tC (.int 8)) tNil))) (tC (.int 1))) (gName 3))
    (tSeq (tIfS (tTest (tOp rEq (tCall spTakeB [] E0 (tCons (tVar 1) (tCons (tC (.int 12)) tNil))) (tC (.int 0)))) (tAsg (tOp (rI0 fun i j => .int (i - j)) (tCall spTakeB [] E0 (tCons (tVar 1) (tCons (tC (.int 18)) tNil))) (tC (.int 1))) (gName 3)) tNext)
    (tSeq (tAsg (tCall spLexp [] E0 (tCons (tVar 1) (tCons (tVar 2) (tCons (tOp rIx1 (tLst (tCons (tC (.int 4)) (tCons (tC (.int 9)) (tCons (tC (.int 16)) tNil)))) (tCall spTakeB [] E0 (tCons (tVar 1) (tCons (tC (.int 3)) tNil)))) tNil)))) (gName 4))
    (tSeq (tAsg (tCall spLsecond [] E0 (tCons (tVar 1) (tCons (tVar 4) tNil))) (gName 5))
    (tSeq (tIfS (tOr (tTest (tOp rEq (tVar 2) (tC (.int 3)))) (tAnd (tTest (tOp rEq (tVar 2) (tC (.int 2)))) (tTest (tOp rEq (tCall spTakeB [] E0 (tCons (tVar 1) (tCons (tC (.int 2)) tNil))) (tC (.int 0)))))) (tAsg (tSl (rSlT K) (tVar 5) (tPart (tC (.int 1))) tNoPart) (gName 9)) (tAsg (tOp (rCatT K) (tVar 5) (tTup (tCons (tCall spTakeB [] E0 (tCons (tVar 1) (tCons (tC (.int 5)) tNil))) tNil))) (gName 9)))
    (tSeq (tAsg (tOp rIx1 (tLst (tCons (tC (.int 0)) (tCons (tC (.int 4)) (tCons (tUn (rU fun i => .int (-i)) (tC (.int 1))) (tCons (tC (.int 7)) tNil))))) (tCall spTakeB [] E0 (tCons (tVar 1) (tCons (tC (.int 4)) tNil)))) (gName 6))
    (tSeq (tIfS (tOr (tNot (tB (tCall (spLists Z) [] E0 (tCons (tVar 2) (tCons (tVar 3) tNil))))) (tNot (tB (tCall spRelations [] E0 (tCons (tVar 4) (tCons (tVar 5) tNil)))))) (tRet (tC (.bl false))) tNext)
    (tSeq (tFor (iRng1 (tCons (tC (.int 4)) tNil)) (gName 7) ((tIfS (tOr (tNot (tB (tCall (spRefused Z) [] E0 (tCons (tVar 7) (tCons (tVar 4) (tCons (tVar 9) (tCons (tVar 6) (tCons (tVar 3) tNil)))))))) (tNot (tB (tCall (spRefused Z) [] E0 (tCons (tVar 7) (tCons (tVar 9) (tCons (tVar 4) (tCons (tVar 6) (tCons (tVar 3) tNil))))))))) (tRet (tC (.bl false))) tNext)))
    (tSeq (tIfS (tNot (tB (tCall spIdle [] E0 (tCons (tVar 6) (tCons (tVar 3) tNil))))) (tRet (tC (.bl false))) tNext)
    (tSeq (tFor (iList K (tLst (tCons (tTup tNil) (tCons (tTup (tCons (tC (.int 1)) (tCons (tC (.int 1)) (tCons (tC (.int 1)) (tCons (tC (.int 1)) tNil))))) tNil)))) (gName 8) ((tFor (iList K (tLst (tCons (tC (.int 0)) (tCons (tC (.int 1)) (tCons (tC (.int 4)) tNil))))) (gName 7) ((tIfS (tNot (tB (tCall (spRefused Z) [] E0 (tCons (tVar 7) (tCons (tVar 8) (tCons (tVar 8) (tCons (tVar 6) (tCons (tVar 3) tNil)))))))) (tRet (tC (.bl false))) tNext)))))
    (tRet (tAndV (tCall (spLists Z) [] E0 (tCons (tVar 2) (tCons (tVar 3) tNil))) (tCall spRelations [] E0 (tCons (tVar 4) (tCons (tVar 5) tNil)))))))))))))))))
abbrev NoB : Addr → Prop := fun _ => False
theorem noB {H : Hp} : There NoB H := fun _ z => z.elim
section
variable {K : PySem.W.Frag} {Z : Addr}
theorem if_high {D : Ends} {a d : V} {P : Addr} {high : Int} {x4 x5 x6 x7 x8 x9 : Option V} {H : Hp} (hp : PoolB NoB H P) (h0 : -1 ≤ high) (h1 : high ≤ 16) (k : ∀ (high : Int) H', -1 ≤ high → high ≤ 16 → PoolB NoB H' P → Keep P H H' → D.nx [some a, some (.ref P), some d, some (.int high), x4, x5, x6, x7, x8, x9] H') :
    tIfS (tTest (tOp rEq (tCall spTakeB [] E0 (tCons (tVar 1) (tCons (tC (.int 12)) tNil))) (tC (.int 0)))) (tAsg (tOp (rI0 fun i j => .int (i - j)) (tCall spTakeB [] E0 (tCons (tVar 1) (tCons (tC (.int 18)) tNil))) (tC (.int 1))) (gName 3)) tNext D [some a, some (.ref P), some d, some (.int high), x4, x5, x6, x7, x8, x9] H := by
  simp only [x_seq, x_if, x_test, x_B, x_op, x_un, x_varS, x_var0, x_c, x_I0, x_I, x_U, x_bl, x_ret, x_next, x_asg, x_name, x_set0, x_setS, x_drop, x_cb, x_cons, x_nil, x_int1, x_abs1, x_max2, x_gcd, x_gsub, x_sl, x_part, x_nopart, x_int, x_call, x_lst, x_tup, x_not, x_and, x_or, x_andV, x_orV, x_notV, x_ifE, x_eqI, x_neI, x_eqB, x_neB, x_tbm, x_never, x_isN, x_notN, decide_eq_true_eq, Bool.false_eq_true, if_false, if_true, List.append_nil, List.nil_append, List.cons_append]
  refine take_to hp noB (by decide) (by decide) fun r H1 hp1 k1 r0 r1 => ?_
  simp only [x_seq, x_if, x_test, x_B, x_op, x_un, x_varS, x_var0, x_c, x_I0, x_I, x_U, x_bl, x_ret, x_next, x_asg, x_name, x_set0, x_setS, x_drop, x_cb, x_cons, x_nil, x_int1, x_abs1, x_max2, x_gcd, x_gsub, x_sl, x_part, x_nopart, x_int, x_call, x_lst, x_tup, x_not, x_and, x_or, x_andV, x_orV, x_notV, x_ifE, x_eqI, x_neI, x_eqB, x_neB, x_tbm, x_never, x_isN, x_notN, decide_eq_true_eq, Bool.false_eq_true, if_false, if_true, List.append_nil, List.nil_append, List.cons_append]
  refine ite2 (fun _ => ?_) fun _ => ?_
  · refine take_to hp1 noB (by decide) (by decide) fun r H2 hp2 k2 r0 r1 => ?_
    have := r1 (by decide)
    simp only [x_seq, x_if, x_test, x_B, x_op, x_un, x_varS, x_var0, x_c, x_I0, x_I, x_U, x_bl, x_ret, x_next, x_asg, x_name, x_set0, x_setS, x_drop, x_cb, x_cons, x_nil, x_int1, x_abs1, x_max2, x_gcd, x_gsub, x_sl, x_part, x_nopart, x_int, x_call, x_lst, x_tup, x_not, x_and, x_or, x_andV, x_orV, x_notV, x_ifE, x_eqI, x_neI, x_eqB, x_neB, x_tbm, x_never, x_isN, x_notN, decide_eq_true_eq, Bool.false_eq_true, if_false, if_true, List.append_nil, List.nil_append, List.cons_append]
    exact k _ H2 (by omega) (by omega) hp2 (k1.trans k2)
  · exact k _ H1 h0 h1 hp1 k1
theorem if_other {D : Ends} {a : V} {P q : Addr} {d : Int} {ms : List Int} {x3 x4 x6 x7 x8 x9 : Option V} {H : Hp} (hp : PoolB NoB H P) (hq : ExpAt H q ms) (hd : (ms.length : Int) = d) (d1 : 1 ≤ d) (d3 : d ≤ 3)
    (k : ∀ (o : Addr) os H', (os.length : Int) ≠ d → ExpAt H' o os → PoolB NoB H' P → Keep P H H' → D.nx [some a, some (.ref P), some (.int d), x3, x4, some (.ref q), x6, x7, x8, some (.ref o)] H') :
    tIfS (tOr (tTest (tOp rEq (tVar 2) (tC (.int 3)))) (tAnd (tTest (tOp rEq (tVar 2) (tC (.int 2)))) (tTest (tOp rEq (tCall spTakeB [] E0 (tCons (tVar 1) (tCons (tC (.int 2)) tNil))) (tC (.int 0)))))) (tAsg (tSl (rSlT K) (tVar 5) (tPart (tC (.int 1))) tNoPart) (gName 9)) (tAsg (tOp (rCatT K) (tVar 5) (tTup (tCons (tCall spTakeB [] E0 (tCons (tVar 1) (tCons (tC (.int 5)) tNil))) tNil))) (gName 9)) D [some a, some (.ref P), some (.int d), x3, x4, some (.ref q), x6, x7, x8, x9] H := by
  have less : ∀ H1, PoolB NoB H1 P → Keep P H H1 → ExpAt H1 q ms → rSlT K (.ref q) (some 1) none H1 fun v H2 => D.nx [some a, some (.ref P), some (.int d), x3, x4, some (.ref q), x6, x7, x8, some v] H2 := by
    intro H1 hp1 k1 hq1
    refine ⟨q, _, rfl, SqT.at hq1, ?_, fun o ho => ?_⟩
    · rw [show (1 : Int) = ((1 : Nat) : Int) from rfl, HT.sIx_nat, List.length_map]
      omega
    · rw [show (1 : Int) = ((1 : Nat) : Int) from rfl, cut_drop (by rw [List.length_map]; omega), ← List.map_drop]
      exact k o (ms.drop 1) _ (by rw [List.length_drop]; omega) upd_same (hp1.same (Same.new ho)) (k1.trans (Keep.of (Same.new ho)))
  have more : ∀ H1, PoolB NoB H1 P → Keep P H H1 → ExpAt H1 q ms → spTakeB [.ref P, .int 5] H1 (fun v H2 => [v].length ≤ sizeLine ∧ ∀ p, H2 p = none → rCatT K (.ref q) (.ref p) (upd H2 p (.tup [v])) fun v H2 => D.nx [some a, some (.ref P), some (.int d), x3, x4, some (.ref q), x6, x7, x8, some v] H2) E0 := by
    intro H1 hp1 k1 hq1
    refine take_to hp1 noB (by decide) (by decide) fun r H2 hp2 k2 r0 r1 => ?_
    have hq2 := hq1.keep hp1 k2
    refine ⟨sl5 (by simp), fun p hp' => ?_⟩
    refine ⟨q, p, _, _, rfl, rfl, SqT.at (Same.new hp' _ _ hq2), SqT.at upd_same, ?_, ?_, (fun h => by cases h), fun _ o ho => ?_⟩
    · intro h
      have := congrArg List.length h
      rw [List.length_map, List.length_nil] at this
      omega
    · rw [List.length_map]
      exact sl5 (by simp; omega)
    · have e : ms.map V.int ++ [V.int r] = (ms ++ [r]).map V.int := by rw [List.map_append]; rfl
      rw [e]
      exact k o (ms ++ [r]) _ (by rw [List.length_append, List.length_singleton]; omega) upd_same (hp2.same (Same.new' (Same.new hp') ho)) ((k1.trans k2).trans (Keep.of (Same.new' (Same.new hp') ho)))
  simp only [x_seq, x_if, x_test, x_B, x_op, x_un, x_varS, x_var0, x_c, x_I0, x_I, x_U, x_bl, x_ret, x_next, x_asg, x_name, x_set0, x_setS, x_drop, x_cb, x_cons, x_nil, x_int1, x_abs1, x_max2, x_gcd, x_gsub, x_sl, x_part, x_nopart, x_int, x_call, x_lst, x_tup, x_not, x_and, x_or, x_andV, x_orV, x_notV, x_ifE, x_eqI, x_neI, x_eqB, x_neB, x_tbm, x_never, x_isN, x_notN, decide_eq_true_eq, Bool.false_eq_true, if_false, if_true, List.append_nil, List.nil_append, List.cons_append]
  refine ite2 (fun _ => ?_) fun _ => ?_
  · exact less H hp (Keep.refl _ _) hq
  refine ite2 (fun _ => ?_) fun _ => ?_
  · refine take_to hp noB (by decide) (by decide) fun r H1 hp1 k1 r0 r1 => ?_
    have hq1 := hq.keep hp k1
    simp only [x_seq, x_if, x_test, x_B, x_op, x_un, x_varS, x_var0, x_c, x_I0, x_I, x_U, x_bl, x_ret, x_next, x_asg, x_name, x_set0, x_setS, x_drop, x_cb, x_cons, x_nil, x_int1, x_abs1, x_max2, x_gcd, x_gsub, x_sl, x_part, x_nopart, x_int, x_call, x_lst, x_tup, x_not, x_and, x_or, x_andV, x_orV, x_notV, x_ifE, x_eqI, x_neI, x_eqB, x_neB, x_tbm, x_never, x_isN, x_notN, decide_eq_true_eq, Bool.false_eq_true, if_false, if_true, List.append_nil, List.nil_append, List.cons_append]
    refine ite2 (fun _ => ?_) fun _ => ?_
    · exact less H1 hp1 k1 hq1
    · exact more H1 hp1 k1 hq1
  · exact more H hp (Keep.refl _ _) hq
end
end SpX

set_option Elab.async false
set_option linter.all false
set_option maxRecDepth 100000
set_option maxHeartbeats 4000000
namespace SpX
open PySem PySem.Spec L2 StX RZ
theorem le_sum : ∀ (l : List Int) (x : Int), (∀ y ∈ l, 0 ≤ y) → x ∈ l → x ≤ l.sum
  | a :: r, x, h, m => by
    rw [List.sum_cons]
    have h0 := h a List.mem_cons_self
    have hr := sum_nonneg r fun y hy => h y (List.mem_cons_of_mem _ hy)
    rcases List.mem_cons.mp m with e | e
    · omega
    · have := le_sum r x (fun y hy => h y (List.mem_cons_of_mem _ hy)) e
      omega
  | [], _, _, m => by cases m
theorem Exps.small {ns : List Int} {d high : Int} (h : Exps ns d high) (hh : high ≤ 16) : ∀ x ∈ ns, 0 ≤ x ∧ x ≤ 20 := fun x m => by
  have := le_sum ns x h.pos m
  have := h.sum
  exact ⟨h.pos x m, by omega⟩
section
variable {K : PySem.W.Frag} {Z : Addr}
theorem pure_law (vs : List V) (H : Hp) (Q : VK) (E : XK) (h : spLaw K vs H Q E) : t_law K Z E { nx := fun _ H' => Q .non H', rt := Q } (start ["script", "pool", "dimension", "high", "first", "second", "wrong", "kind", "odd", "other"] vs) H := by
  obtain ⟨a, sc, rfl, hS, hl, k⟩ := h
  show t_law K Z E _ [some (.ref a), none, none, none, none, none, none, none, none, none] H
  unfold t_law
  rw [x_seq]
  simp only [x_if, x_test, x_B, x_op, x_un, x_varS, x_var0, x_c, x_I0, x_I, x_U, x_bl, x_ret, x_next, x_asg, x_name, x_set0, x_setS, x_drop, x_cb, x_cons, x_nil, x_int1, x_abs1, x_max2, x_gcd, x_gsub, x_sl, x_part, x_nopart, x_int, x_call, x_lst, x_tup, x_not, x_and, x_or, x_andV, x_orV, x_notV, x_ifE, x_eqI, x_neI, x_eqB, x_neB, x_tbm, x_never, x_isN, x_notN, decide_eq_true_eq, Bool.false_eq_true, if_false, if_true, List.append_nil, List.nil_append, List.cons_append]
  refine ⟨a, sc, rfl, hS, hl, fun P H1 hp1 s1 => ?_⟩
  dsimp only
  rw [x_seq]
  simp only [x_if, x_test, x_B, x_op, x_un, x_varS, x_var0, x_c, x_I0, x_I, x_U, x_bl, x_ret, x_next, x_asg, x_name, x_set0, x_setS, x_drop, x_cb, x_cons, x_nil, x_int1, x_abs1, x_max2, x_gcd, x_gsub, x_sl, x_part, x_nopart, x_int, x_call, x_lst, x_tup, x_not, x_and, x_or, x_andV, x_orV, x_notV, x_ifE, x_eqI, x_neI, x_eqB, x_neB, x_tbm, x_never, x_isN, x_notN, decide_eq_true_eq, Bool.false_eq_true, if_false, if_true, List.append_nil, List.nil_append, List.cons_append]
  refine take_to hp1 noB (by decide) (by decide) fun r H2 hp2 k2 r0 r1 => ?_
  have r1 := r1 (by decide)
  obtain ⟨d, hd⟩ : ∃ d, d = 1 + r := ⟨_, rfl⟩
  simp only [x_if, x_test, x_B, x_op, x_un, x_varS, x_var0, x_c, x_I0, x_I, x_U, x_bl, x_ret, x_next, x_asg, x_name, x_set0, x_setS, x_drop, x_cb, x_cons, x_nil, x_int1, x_abs1, x_max2, x_gcd, x_gsub, x_sl, x_part, x_nopart, x_int, x_call, x_lst, x_tup, x_not, x_and, x_or, x_andV, x_orV, x_notV, x_ifE, x_eqI, x_neI, x_eqB, x_neB, x_tbm, x_never, x_isN, x_notN, decide_eq_true_eq, Bool.false_eq_true, if_false, if_true, List.append_nil, List.nil_append, List.cons_append]
  rw [← hd]
  rw [x_seq]
  simp only [x_if, x_test, x_B, x_op, x_un, x_varS, x_var0, x_c, x_I0, x_I, x_U, x_bl, x_ret, x_next, x_asg, x_name, x_set0, x_setS, x_drop, x_cb, x_cons, x_nil, x_int1, x_abs1, x_max2, x_gcd, x_gsub, x_sl, x_part, x_nopart, x_int, x_call, x_lst, x_tup, x_not, x_and, x_or, x_andV, x_orV, x_notV, x_ifE, x_eqI, x_neI, x_eqB, x_neB, x_tbm, x_never, x_isN, x_notN, decide_eq_true_eq, Bool.false_eq_true, if_false, if_true, List.append_nil, List.nil_append, List.cons_append]
  refine take_to hp2 noB (by decide) (by decide) fun r' H3 hp3 k3 q0 q1 => ?_
  have q1 := q1 (by decide)
  simp only [x_if, x_test, x_B, x_op, x_un, x_varS, x_var0, x_c, x_I0, x_I, x_U, x_bl, x_ret, x_next, x_asg, x_name, x_set0, x_setS, x_drop, x_cb, x_cons, x_nil, x_int1, x_abs1, x_max2, x_gcd, x_gsub, x_sl, x_part, x_nopart, x_int, x_call, x_lst, x_tup, x_not, x_and, x_or, x_andV, x_orV, x_notV, x_ifE, x_eqI, x_neI, x_eqB, x_neB, x_tbm, x_never, x_isN, x_notN, decide_eq_true_eq, Bool.false_eq_true, if_false, if_true, List.append_nil, List.nil_append, List.cons_append]
  rw [x_seq]
  refine if_high hp3 (by omega) (by omega) fun high H4 h0 h16 hp4 k4 => ?_
  dsimp only
  rw [x_seq]
  simp only [x_if, x_test, x_B, x_op, x_un, x_varS, x_var0, x_c, x_I0, x_I, x_U, x_bl, x_ret, x_next, x_asg, x_name, x_set0, x_setS, x_drop, x_cb, x_cons, x_nil, x_int1, x_abs1, x_max2, x_gcd, x_gsub, x_sl, x_part, x_nopart, x_int, x_call, x_lst, x_tup, x_not, x_and, x_or, x_andV, x_orV, x_notV, x_ifE, x_eqI, x_neI, x_eqB, x_neB, x_tbm, x_never, x_isN, x_notN, decide_eq_true_eq, Bool.false_eq_true, if_false, if_true, List.append_nil, List.nil_append, List.cons_append]
  refine ⟨sl5 (by simp), fun l hl => ?_⟩
  refine take_to (hp4.same (Same.new hl)) noB (by decide) (by decide) fun r2 H5 hp5 k5 b0 b1 => ?_
  have b1 := b1 (by decide)
  have nl : l ≠ P := fun q => by
    obtain ⟨xs, ho⟩ := hp4.there
    rw [q, ho] at hl
    cases hl
  have hl' := k5 _ _ nl upd_same
  obtain ⟨v, hv, v0, v16⟩ : ∃ v : Int, atI [V.int 4, .int 9, .int 16] r2 = some (.int v) ∧ 0 ≤ v ∧ v ≤ 16 := by
    obtain rfl | rfl | rfl : r2 = 0 ∨ r2 = 1 ∨ r2 = 2 := by omega
    · exact ⟨4, rfl, by decide, by decide⟩
    · exact ⟨9, rfl, by decide, by decide⟩
    · exact ⟨16, rfl, by decide, by decide⟩
  simp only [x_if, x_test, x_B, x_op, x_un, x_varS, x_var0, x_c, x_I0, x_I, x_U, x_bl, x_ret, x_next, x_asg, x_name, x_set0, x_setS, x_drop, x_cb, x_cons, x_nil, x_int1, x_abs1, x_max2, x_gcd, x_gsub, x_sl, x_part, x_nopart, x_int, x_call, x_lst, x_tup, x_not, x_and, x_or, x_andV, x_orV, x_notV, x_ifE, x_eqI, x_neI, x_eqB, x_neB, x_tbm, x_never, x_isN, x_notN, decide_eq_true_eq, Bool.false_eq_true, if_false, if_true, List.append_nil, List.nil_append, List.cons_append, x_ix hl' hv]
  refine ⟨P, d, v, NoB, rfl, hp5, noB, by omega, by omega, v0, v16, fun p ns H6 hp hp6 k6 ex => ?_⟩
  dsimp only
  rw [x_seq]
  simp only [x_if, x_test, x_B, x_op, x_un, x_varS, x_var0, x_c, x_I0, x_I, x_U, x_bl, x_ret, x_next, x_asg, x_name, x_set0, x_setS, x_drop, x_cb, x_cons, x_nil, x_int1, x_abs1, x_max2, x_gcd, x_gsub, x_sl, x_part, x_nopart, x_int, x_call, x_lst, x_tup, x_not, x_and, x_or, x_andV, x_orV, x_notV, x_ifE, x_eqI, x_neI, x_eqB, x_neB, x_tbm, x_never, x_isN, x_notN, decide_eq_true_eq, Bool.false_eq_true, if_false, if_true, List.append_nil, List.nil_append, List.cons_append]
  have len := ex.len
  refine ⟨P, p, ns, d, NoB, rfl, hp6, noB, hp, ⟨ex.len, ex.pos, by have := ex.sum; omega⟩, by omega, by omega, fun q ms H7 hq hp7 k7 ey => ?_⟩
  have hp' := hp.keep hp6 k7
  dsimp only
  rw [x_seq]
  refine if_other hp7 hq ey.len (by omega) (by omega) fun o os H8 ne ho hp8 k8 => ?_
  have hp' := hp'.keep hp7 k8
  have hq := hq.keep hp7 k8
  dsimp only
  rw [x_seq]
  simp only [x_if, x_test, x_B, x_op, x_un, x_varS, x_var0, x_c, x_I0, x_I, x_U, x_bl, x_ret, x_next, x_asg, x_name, x_set0, x_setS, x_drop, x_cb, x_cons, x_nil, x_int1, x_abs1, x_max2, x_gcd, x_gsub, x_sl, x_part, x_nopart, x_int, x_call, x_lst, x_tup, x_not, x_and, x_or, x_andV, x_orV, x_notV, x_ifE, x_eqI, x_neI, x_eqB, x_neB, x_tbm, x_never, x_isN, x_notN, decide_eq_true_eq, Bool.false_eq_true, if_false, if_true, List.append_nil, List.nil_append, List.cons_append]
  refine ⟨sl5 (by simp), fun l2 hl2 => ?_⟩
  refine take_to (hp8.same (Same.new hl2)) noB (by decide) (by decide) fun r3 H9 hp9 k9 c0 c1 => ?_
  have c1 := c1 (by decide)
  have nl2 : l2 ≠ P := fun q => by
    obtain ⟨xs, ho⟩ := hp8.there
    rw [q, ho] at hl2
    cases hl2
  have hl2' := k9 _ _ nl2 upd_same
  have kk9 : Keep P H8 H9 := (Keep.of (Same.new hl2)).trans k9
  have hp' := hp'.keep hp8 kk9
  have hq := hq.keep hp8 kk9
  have ho := ho.keep hp8 kk9
  obtain ⟨w, hw, wr⟩ : ∃ w : Int, atI [V.int 0, .int 4, .int (-1), .int 7] r3 = some (.int w) ∧ ¬(1 ≤ w ∧ w ≤ 3) := by
    obtain rfl | rfl | rfl | rfl : r3 = 0 ∨ r3 = 1 ∨ r3 = 2 ∨ r3 = 3 := by omega
    · exact ⟨0, rfl, by decide⟩
    · exact ⟨4, rfl, by decide⟩
    · exact ⟨-1, rfl, by decide⟩
    · exact ⟨7, rfl, by decide⟩
  simp only [x_if, x_test, x_B, x_op, x_un, x_varS, x_var0, x_c, x_I0, x_I, x_U, x_bl, x_ret, x_next, x_asg, x_name, x_set0, x_setS, x_drop, x_cb, x_cons, x_nil, x_int1, x_abs1, x_max2, x_gcd, x_gsub, x_sl, x_part, x_nopart, x_int, x_call, x_lst, x_tup, x_not, x_and, x_or, x_andV, x_orV, x_notV, x_ifE, x_eqI, x_neI, x_eqB, x_neB, x_tbm, x_never, x_isN, x_notN, decide_eq_true_eq, Bool.false_eq_true, if_false, if_true, List.append_nil, List.nil_append, List.cons_append, x_ix hl2' hw]
  have sx := ex.small v16
  have sy := ey.small (by decide)
  have ley := ey.len
  have pr : Pair ns ms := by unfold Pair; omega
  clear hl2' hw k9 kk9 hp8 hp7 hp6 hp5
  rw [x_seq]
  -- the lists, the relations
  simp only [x_if, x_test, x_B, x_op, x_un, x_varS, x_var0, x_c, x_I0, x_I, x_U, x_bl, x_ret, x_next, x_asg, x_name, x_set0, x_setS, x_drop, x_cb, x_cons, x_nil, x_int1, x_abs1, x_max2, x_gcd, x_gsub, x_sl, x_part, x_nopart, x_int, x_call, x_lst, x_tup, x_not, x_and, x_or, x_andV, x_orV, x_notV, x_ifE, x_eqI, x_neI, x_eqB, x_neB, x_tbm, x_never, x_isN, x_notN, decide_eq_true_eq, Bool.false_eq_true, if_false, if_true, List.append_nil, List.nil_append, List.cons_append]
  refine ⟨d, high, rfl, by omega, by omega, h0, h16, fun HA sA => ⟨true, rfl, ?_⟩⟩
  rw [if_neg (by decide)]
  refine ⟨p, q, ns, ms, rfl, sA _ _ hp', sA _ _ hq, pr, sx, sy, fun HB sB => ⟨true, rfl, ?_⟩⟩
  rw [if_neg (by decide)]
  try dsimp only
  rw [x_seq]
  have sB := sA.trans sB
  have no1 : ¬ Pair ns os := by unfold Pair; omega
  have no2 : ¬ Pair os ns := by unfold Pair; omega
  refine for_rngE (j := 4) (fun QA => by simp only [x_if, x_test, x_B, x_op, x_un, x_varS, x_var0, x_c, x_I0, x_I, x_U, x_bl, x_ret, x_next, x_asg, x_name, x_set0, x_setS, x_drop, x_cb, x_cons, x_nil, x_int1, x_abs1, x_max2, x_gcd, x_gsub, x_sl, x_part, x_nopart, x_int, x_call, x_lst, x_tup, x_not, x_and, x_or, x_andV, x_orV, x_notV, x_ifE, x_eqI, x_neI, x_eqB, x_neB, x_tbm, x_never, x_isN, x_notN, decide_eq_true_eq, Bool.false_eq_true, if_false, if_true, List.append_nil, List.nil_append, List.cons_append]) (by decide) (fun i σ H' => Same H9 H' ∧ ∃ x7 x8 : Option V, σ = [some (.ref a), some (.ref P), some (.int d), some (.int high), some (.ref p), some (.ref q), some (.int w), x7, x8, some (.ref o)]) ⟨sB, _, _, rfl⟩ ?_ ?_
  · rintro i σ H' hi ⟨si, x7, x8, rfl⟩
    simp only [x_if, x_test, x_B, x_op, x_un, x_varS, x_var0, x_c, x_I0, x_I, x_U, x_bl, x_ret, x_next, x_asg, x_name, x_set0, x_setS, x_drop, x_cb, x_cons, x_nil, x_int1, x_abs1, x_max2, x_gcd, x_gsub, x_sl, x_part, x_nopart, x_int, x_call, x_lst, x_tup, x_not, x_and, x_or, x_andV, x_orV, x_notV, x_ifE, x_eqI, x_neI, x_eqB, x_neB, x_tbm, x_never, x_isN, x_notN, decide_eq_true_eq, Bool.false_eq_true, if_false, if_true, List.append_nil, List.nil_append, List.cons_append]
    refine ⟨(i : Int), p, o, ns, os, w, high, rfl, si _ _ hp', si _ _ ho, ⟨by omega, by omega, wr, fun _ => no1, fun z => by omega⟩, fun HC sC => ⟨true, rfl, ?_⟩⟩
    rw [if_neg (by decide)]
    have sC := si.trans sC
    refine ⟨(i : Int), o, p, os, ns, w, high, rfl, sC _ _ ho, sC _ _ hp', ⟨by omega, by omega, wr, fun _ => no2, fun z => by omega⟩, fun HD sD => ⟨true, rfl, ?_⟩⟩
    rw [if_neg (by decide)]
    exact ⟨sC.trans sD, _, _, rfl⟩
  rintro σ HE ⟨sE, x7, x8, rfl⟩
  dsimp only
  rw [x_seq]
  simp only [x_if, x_test, x_B, x_op, x_un, x_varS, x_var0, x_c, x_I0, x_I, x_U, x_bl, x_ret, x_next, x_asg, x_name, x_set0, x_setS, x_drop, x_cb, x_cons, x_nil, x_int1, x_abs1, x_max2, x_gcd, x_gsub, x_sl, x_part, x_nopart, x_int, x_call, x_lst, x_tup, x_not, x_and, x_or, x_andV, x_orV, x_notV, x_ifE, x_eqI, x_neI, x_eqB, x_neB, x_tbm, x_never, x_isN, x_notN, decide_eq_true_eq, Bool.false_eq_true, if_false, if_true, List.append_nil, List.nil_append, List.cons_append]
  refine ⟨w, high, rfl, wr, fun HF sF => ⟨true, rfl, ?_⟩⟩
  rw [if_neg (by decide)]
  have sF := sE.trans sF
  try dsimp only
  rw [x_seq]
  refine x_forL ?_
  simp only [x_if, x_test, x_B, x_op, x_un, x_varS, x_var0, x_c, x_I0, x_I, x_U, x_bl, x_ret, x_next, x_asg, x_name, x_set0, x_setS, x_drop, x_cb, x_cons, x_nil, x_int1, x_abs1, x_max2, x_gcd, x_gsub, x_sl, x_part, x_nopart, x_int, x_call, x_lst, x_tup, x_not, x_and, x_or, x_andV, x_orV, x_notV, x_ifE, x_eqI, x_neI, x_eqB, x_neB, x_tbm, x_never, x_isN, x_notN, decide_eq_true_eq, Bool.false_eq_true, if_false, if_true, List.append_nil, List.nil_append, List.cons_append]
  refine ⟨by decide, fun T1 h1 => ⟨by decide, fun T2 h2 => ⟨sl5 (by simp), fun L hL => ⟨L, rfl, ?_⟩⟩⟩⟩
  have s4 : Same HF (upd (upd HF T1 (.tup [])) T2 (.tup [.int 1, .int 1, .int 1, .int 1])) := Same.new' (Same.new h1) h2
  have e2 : (upd (upd HF T1 (.tup [])) T2 (.tup [.int 1, .int 1, .int 1, .int 1])) T2 = some (.tup [.int 1, .int 1, .int 1, .int 1]) := upd_same
  have e1 := Same.new (o := .tup [.int 1, .int 1, .int 1, .int 1]) h2 _ _ (show (upd HF T1 (.tup [])) T1 = some (.tup []) from upd_same)
  generalize upd (upd HF T1 (.tup [])) T2 (.tup [.int 1, .int 1, .int 1, .int 1]) = HG at s4 e2 e1 hL ⊢
  have s5 : Same HG (upd HG L (.lst [.ref T1, .ref T2])) := Same.new hL
  have eL : (upd HG L (.lst [.ref T1, .ref T2])) L = some (.lst [.ref T1, .ref T2]) := upd_same
  generalize upd HG L (.lst [.ref T1, .ref T2]) = HH at s5 eL ⊢
  have sH := (sF.trans s4).trans s5
  have all : ∀ (i : Nat) (x : V), [V.ref T1, .ref T2][i]? = some x → ∃ (T : Addr) (ts : List Int), x = .ref T ∧ ExpAt HH T ts ∧ ¬(1 ≤ ts.length ∧ ts.length ≤ 3) := by
    rintro (_ | _ | i) x hx
    · cases hx; exact ⟨T1, [], rfl, s5 _ _ e1, by decide⟩
    · cases hx; exact ⟨T2, [1, 1, 1, 1], rfl, s5 _ _ e2, by decide⟩
    · cases hx
  refine for_lstE (K := K) (xs := [.ref T1, .ref T2]) (fun Q => rfl) (fun i σ H' => Same HH H' ∧ ∃ x7 x8 : Option V, σ = [some (.ref a), some (.ref P), some (.int d), some (.int high), some (.ref p), some (.ref q), some (.int w), x7, x8, some (.ref o)]) ⟨Same.refl _, _, _, rfl⟩ (fun i σ H' _ z => z.1 _ _ eL) ?_ ?_
  · rintro i y σ H' hi ⟨si, x7, x8, rfl⟩
    obtain ⟨T, ts, rfl, hT, hts⟩ := all i y hi
    have nts : ¬ Pair ts ts := by unfold Pair; omega
    simp only [x_name, x_setS, x_set0]
    refine x_forL ?_
    simp only [x_if, x_test, x_B, x_op, x_un, x_varS, x_var0, x_c, x_I0, x_I, x_U, x_bl, x_ret, x_next, x_asg, x_name, x_set0, x_setS, x_drop, x_cb, x_cons, x_nil, x_int1, x_abs1, x_max2, x_gcd, x_gsub, x_sl, x_part, x_nopart, x_int, x_call, x_lst, x_tup, x_not, x_and, x_or, x_andV, x_orV, x_notV, x_ifE, x_eqI, x_neI, x_eqB, x_neB, x_tbm, x_never, x_isN, x_notN, decide_eq_true_eq, Bool.false_eq_true, if_false, if_true, List.append_nil, List.nil_append, List.cons_append]
    refine ⟨sl5 (by simp), fun M hM => ⟨M, rfl, ?_⟩⟩
    have s6 : Same HH (upd H' M (.lst [.int 0, .int 1, .int 4])) := Same.new' si hM
    have eM : (upd H' M (.lst [.int 0, .int 1, .int 4])) M = some (.lst [.int 0, .int 1, .int 4]) := upd_same
    generalize upd H' M (.lst [.int 0, .int 1, .int 4]) = HI at s6 eM ⊢
    refine for_lstE (K := K) (xs := [.int 0, .int 1, .int 4]) (fun Q => rfl) (fun i σ H' => Same HI H' ∧ ∃ x7 : Option V, σ = [some (.ref a), some (.ref P), some (.int d), some (.int high), some (.ref p), some (.ref q), some (.int w), x7, some (.ref T), some (.ref o)]) ⟨Same.refl _, _, rfl⟩ (fun i σ H' _ z => z.1 _ _ eM) ?_ ?_
    · rintro j y σ H2 hj ⟨sj, x7, rfl⟩
      obtain ⟨kind, rfl, k0, k4⟩ : ∃ kind : Int, y = .int kind ∧ 0 ≤ kind ∧ kind ≤ 4 := by
        rcases j with _ | _ | _ | j
        · cases hj; exact ⟨0, rfl, by decide, by decide⟩
        · cases hj; exact ⟨1, rfl, by decide, by decide⟩
        · cases hj; exact ⟨4, rfl, by decide, by decide⟩
        · cases hj
      have hT2 := sj _ _ (s6 _ _ hT)
      simp only [x_if, x_test, x_B, x_op, x_un, x_varS, x_var0, x_c, x_I0, x_I, x_U, x_bl, x_ret, x_next, x_asg, x_name, x_set0, x_setS, x_drop, x_cb, x_cons, x_nil, x_int1, x_abs1, x_max2, x_gcd, x_gsub, x_sl, x_part, x_nopart, x_int, x_call, x_lst, x_tup, x_not, x_and, x_or, x_andV, x_orV, x_notV, x_ifE, x_eqI, x_neI, x_eqB, x_neB, x_tbm, x_never, x_isN, x_notN, decide_eq_true_eq, Bool.false_eq_true, if_false, if_true, List.append_nil, List.nil_append, List.cons_append]
      refine ⟨kind, T, T, ts, ts, w, high, rfl, hT2, hT2, ⟨k0, k4, wr, fun _ => nts, fun _ => hts⟩, fun H3 s3 => ⟨true, rfl, ?_⟩⟩
      rw [if_neg (by decide)]
      exact ⟨sj.trans s3, _, rfl⟩
    · rintro σ H2 ⟨sj, x7, rfl⟩
      exact ⟨s6.trans sj, _, _, rfl⟩
  · rintro σ H' ⟨si, x7, x8, rfl⟩
    have sI := sH.trans si
    simp only [x_if, x_test, x_B, x_op, x_un, x_varS, x_var0, x_c, x_I0, x_I, x_U, x_bl, x_ret, x_next, x_asg, x_name, x_set0, x_setS, x_drop, x_cb, x_cons, x_nil, x_int1, x_abs1, x_max2, x_gcd, x_gsub, x_sl, x_part, x_nopart, x_int, x_call, x_lst, x_tup, x_not, x_and, x_or, x_andV, x_orV, x_notV, x_ifE, x_eqI, x_neI, x_eqB, x_neB, x_tbm, x_never, x_isN, x_notN, decide_eq_true_eq, Bool.false_eq_true, if_false, if_true, List.append_nil, List.nil_append, List.cons_append]
    refine ⟨d, high, rfl, by omega, by omega, h0, h16, fun HJ sJ => ⟨true, rfl, ?_⟩⟩
    rw [if_pos rfl]
    have sJ := sI.trans sJ
    refine ⟨p, q, ns, ms, rfl, sJ _ _ hp', sJ _ _ hq, pr, sx, sy, fun HK _ => k HK⟩
end
end SpX

set_option Elab.async false
set_option linter.all false
set_option maxRecDepth 100000
set_option maxHeartbeats 4000000
namespace SpX
open PySem PySem.Spec L2 StX RZ
theorem pe_gk {X : Cx} {x : Str} {v : V} {pos : Pos} (hg : Gl X x) (h : ∃ u, X.mg x = some u ∧ RelV v u) (hd : (x == ("__debug__" : Str)) = false := by decide) : PE X (.Name x pos) (tC v) := by
  obtain ⟨u, hm, r⟩ := h
  exact pe_glob hg hm r hd
def top (i : Nat) : Stmt := PySem.Challenge.pw_spotheights_k02_monomials_in_order.main.body.getD i (.Pass ⟨0, 0, 0, 0⟩)
abbrev s_pool : Stmt := top 19
theorem sc_pool : FnScope ["script", "greats", "smalls", "cell"] ["script"] (defScope s_pool) := ⟨rfl, rfl, rfl, by decide +kernel, rfl, by decide +kernel, by decide +kernel⟩
abbrev s_take : Stmt := top 20
theorem sc_take : FnScope ["pool", "most", "count", "seed", "mixed", "value", "rest"] ["pool", "most"] (defScope s_take) := ⟨rfl, rfl, rfl, by decide +kernel, rfl, by decide +kernel, by decide +kernel⟩
abbrev s_integer : Stmt := top 21
theorem sc_integer : FnScope ["thing"] ["thing"] (defScope s_integer) := ⟨rfl, rfl, rfl, by decide +kernel, rfl, by decide +kernel, by decide +kernel⟩
abbrev s_chk : Stmt := top 8
theorem sc_chk : FnScope ["dimension"] ["dimension"] (defScope s_chk) := ⟨rfl, rfl, rfl, by decide +kernel, rfl, by decide +kernel, by decide +kernel⟩
abbrev s_chke : Stmt := top 9
theorem sc_chke : FnScope ["entries", "dimension"] ["entries", "dimension"] (defScope s_chke) := ⟨rfl, rfl, rfl, by decide +kernel, rfl, by decide +kernel, by decide +kernel⟩
abbrev s_place : Stmt := top 13
theorem sc_place : FnScope ["exponents", "exponent"] ["exponents"] (defScope s_place) := ⟨rfl, rfl, rfl, by decide +kernel, rfl, by decide +kernel, by decide +kernel⟩
abbrev s_pair : Stmt := top 17
theorem sc_pair : FnScope ["first", "second"] ["first", "second"] (defScope s_pair) := ⟨rfl, rfl, rfl, by decide +kernel, rfl, by decide +kernel, by decide +kernel⟩
abbrev s_before : Stmt := top 14
theorem sc_before : FnScope ["first", "second"] ["first", "second"] (defScope s_before) := ⟨rfl, rfl, rfl, by decide +kernel, rfl, by decide +kernel, by decide +kernel⟩
abbrev s_divides : Stmt := top 15
theorem sc_divides : FnScope ["first", "second", "low", "high"] ["first", "second"] (defScope s_divides) := ⟨rfl, rfl, rfl, by decide +kernel, rfl, by decide +kernel, by decide +kernel⟩
abbrev s_mfac : Stmt := top 16
theorem sc_mfac : FnScope ["exponents", "product", "exponent"] ["exponents"] (defScope s_mfac) := ⟨rfl, rfl, rfl, by decide +kernel, rfl, by decide +kernel, by decide +kernel⟩
abbrev s_lexp : Stmt := top 22
theorem sc_lexp : FnScope ["pool", "dimension", "high", "left", "found", "k", "cut", "exponent"] ["pool", "dimension", "high"] (defScope s_lexp) := ⟨rfl, rfl, rfl, by decide +kernel, rfl, by decide +kernel, by decide +kernel⟩
abbrev s_lodeg : Stmt := top 23
theorem sc_lodeg : FnScope ["pool", "dimension", "total", "found", "at"] ["pool", "dimension", "total"] (defScope s_lodeg) := ⟨rfl, rfl, rfl, by decide +kernel, rfl, by decide +kernel, by decide +kernel⟩
abbrev s_lsecond : Stmt := top 24
theorem sc_lsecond : FnScope ["pool", "first", "kind", "more", "k", "exponent"] ["pool", "first"] (defScope s_lsecond) := ⟨rfl, rfl, rfl, by decide +kernel, rfl, by decide +kernel, by decide +kernel⟩
abbrev s_lbefore : Stmt := top 25
theorem sc_lbefore : FnScope ["first", "second", "k"] ["first", "second"] (defScope s_lbefore) := ⟨rfl, rfl, rfl, by decide +kernel, rfl, by decide +kernel, by decide +kernel⟩
abbrev s_lwithin : Stmt := top 26
theorem sc_lwithin : FnScope ["first", "second", "k"] ["first", "second"] (defScope s_lwithin) := ⟨rfl, rfl, rfl, by decide +kernel, rfl, by decide +kernel, by decide +kernel⟩
abbrev s_lfac : Stmt := top 27
theorem sc_lfac : FnScope ["exponents", "found", "exponent", "k"] ["exponents"] (defScope s_lfac) := ⟨rfl, rfl, rfl, by decide +kernel, rfl, by decide +kernel, by decide +kernel⟩
abbrev s_lmany : Stmt := top 28
theorem sc_lmany : FnScope ["dimension", "high"] ["dimension", "high"] (defScope s_lmany) := ⟨rfl, rfl, rfl, by decide +kernel, rfl, by decide +kernel, by decide +kernel⟩
abbrev s_listed : Stmt := top 29
theorem sc_listed : FnScope ["told", "dimension", "low", "high", "many", "before", "exponents", "exponent"] ["told", "dimension", "low", "high", "many"] (defScope s_listed) := ⟨rfl, rfl, rfl, by decide +kernel, rfl, by decide +kernel, by decide +kernel⟩
abbrev s_says : Stmt := top 32
theorem sc_says : FnScope ["told", "due"] ["told", "due"] (defScope s_says) := ⟨rfl, rfl, rfl, by decide +kernel, rfl, by decide +kernel, by decide +kernel⟩
abbrev s_relations : Stmt := top 33
theorem sc_relations : FnScope ["first", "second", "pair", "told"] ["first", "second"] (defScope s_relations) := ⟨rfl, rfl, rfl, by decide +kernel, rfl, by decide +kernel, by decide +kernel⟩
abbrev s_mod : Stmt := top 11
theorem sc_mod : FnScope ["dimension", "degree", "first", "rest"] ["dimension", "degree"] (defScope s_mod) := ⟨rfl, rfl, rfl, by decide +kernel, rfl, by decide +kernel, by decide +kernel⟩
abbrev s_up : Stmt := top 12
theorem sc_up : GScope ["dimension", "degree", "each"] ["dimension", "degree"] (defScope s_up) := ⟨rfl, rfl, rfl, by decide +kernel, rfl, by decide +kernel, by decide +kernel⟩
abbrev s_lists : Stmt := top 31
theorem sc_lists : FnScope ["dimension", "high", "many", "told", "exponent"] ["dimension", "high"] (defScope s_lists) := ⟨rfl, rfl, rfl, by decide +kernel, rfl, by decide +kernel, by decide +kernel⟩
abbrev s_refused : Stmt := top 34
theorem sc_refused : FnScope ["kind", "first", "second", "dimension", "high", "flags", "e", "others"] ["kind", "first", "second", "dimension", "high"] (defScope s_refused) := ⟨rfl, rfl, rfl, by decide +kernel, rfl, by decide +kernel, by decide +kernel⟩
abbrev s_idle : Stmt := top 30
theorem sc_idle : FnScope ["dimension", "high", "idle", "e", "pair"] ["dimension", "high"] (defScope s_idle) := ⟨rfl, rfl, rfl, by decide +kernel, rfl, by decide +kernel, by decide +kernel⟩
abbrev s_law : Stmt := top 35
theorem sc_law : FnScope ["script", "pool", "dimension", "high", "first", "second", "wrong", "kind", "odd", "other"] ["script"] (defScope s_law) := ⟨rfl, rfl, rfl, by decide +kernel, rfl, by decide +kernel, by decide +kernel⟩
structure Ad where
  WD : Addr
  BM : Addr
  BI : Addr
  SE : Addr
  f_pool : Addr
  d_pool : FuncData
  f_take : Addr
  d_take : FuncData
  f_integer : Addr
  d_integer : FuncData
  f_chk : Addr
  d_chk : FuncData
  f_chke : Addr
  d_chke : FuncData
  f_place : Addr
  d_place : FuncData
  f_pair : Addr
  d_pair : FuncData
  f_before : Addr
  d_before : FuncData
  f_divides : Addr
  d_divides : FuncData
  f_mfac : Addr
  d_mfac : FuncData
  f_lexp : Addr
  d_lexp : FuncData
  f_lodeg : Addr
  d_lodeg : FuncData
  f_lsecond : Addr
  d_lsecond : FuncData
  f_lbefore : Addr
  d_lbefore : FuncData
  f_lwithin : Addr
  d_lwithin : FuncData
  f_lfac : Addr
  d_lfac : FuncData
  f_lmany : Addr
  d_lmany : FuncData
  f_listed : Addr
  d_listed : FuncData
  f_says : Addr
  d_says : FuncData
  f_relations : Addr
  d_relations : FuncData
  f_mod : Addr
  d_mod : FuncData
  f_up : Addr
  d_up : FuncData
  f_lists : Addr
  d_lists : FuncData
  f_refused : Addr
  d_refused : FuncData
  f_idle : Addr
  d_idle : FuncData
  f_law : Addr
  d_law : FuncData
/-- what the top has written -/
structure Txt (K : PySem.W.Frag) (mg : Str → Option Value) (a : Ad) : Prop where
  g_factorial : mg "factorial" = some (.builtin "math.factorial")
  c_DIMENSIONS : ∃ u, mg "DIMENSIONS" = some u ∧ RelV (.int 3) u
  xW : PySem.W.excIn K a.WD [.type "ValueError", .type "Exception", .type "BaseException", .type "object"] "ValueError.__new__" = true
  gW : mg "WrongDimension" = some (.ref a.WD)
  kW : PySem.W.keepIn K (.ref a.WD) = true
  bW : PySem.W.subIn K (.ref a.WD) (.type "BaseException") = some true
  tW : PySem.W.typeIn K (.ref a.WD) = some (.type "type")
  stop : PySem.W.subIn K (.ref a.WD) (.type "StopIteration") = some false
  g_BadMonomial : mg "BadMonomial" = some (.ref a.BM)
  g_BadIndex : mg "BadIndex" = some (.ref a.BI)
  g_SpotError : mg "SpotError" = some (.ref a.SE)
  exc : ExcTxt K a.WD a.BM a.BI a.SE
  n_len : mg "len" = none
  n_abs : mg "abs" = none
  n_int : mg "int" = none
  n_list : mg "list" = none
  n_tuple : mg "tuple" = none
  n_bool : mg "bool" = none
  n_sum : mg "sum" = none
  n_max : mg "max" = none
  n_all : mg "all" = none
  n_zip : mg "zip" = none
  n_isinstance : mg "isinstance" = none
  n_range : mg "range" = none
  n_ValueError : mg "ValueError" = none
  F_pool : Fun K "_law_pool" "_law_pool" s_pool a.f_pool a.d_pool
  b_pool : Binds K a.d_pool ["script"] []
  g_pool : mg "_law_pool" = some (.ref a.f_pool)
  k_pool : PySem.W.keepIn K (.ref a.f_pool) = true
  F_take : Fun K "_law_take" "_law_take" s_take a.f_take a.d_take
  b_take : Binds K a.d_take ["pool", "most"] []
  g_take : mg "_law_take" = some (.ref a.f_take)
  k_take : PySem.W.keepIn K (.ref a.f_take) = true
  F_integer : Fun K "_law_integer" "_law_integer" s_integer a.f_integer a.d_integer
  b_integer : Binds K a.d_integer ["thing"] []
  g_integer : mg "_law_integer" = some (.ref a.f_integer)
  k_integer : PySem.W.keepIn K (.ref a.f_integer) = true
  F_chk : Fun K "check_dimension" "check_dimension" s_chk a.f_chk a.d_chk
  b_chk : Binds K a.d_chk ["dimension"] []
  g_chk : mg "check_dimension" = some (.ref a.f_chk)
  k_chk : PySem.W.keepIn K (.ref a.f_chk) = true
  F_chke : Fun K "check_entries" "check_entries" s_chke a.f_chke a.d_chke
  b_chke : Binds K a.d_chke ["entries", "dimension"] []
  g_chke : mg "check_entries" = some (.ref a.f_chke)
  k_chke : PySem.W.keepIn K (.ref a.f_chke) = true
  F_place : Fun K "standard_place" "standard_place" s_place a.f_place a.d_place
  b_place : Binds K a.d_place ["exponents"] []
  g_place : mg "standard_place" = some (.ref a.f_place)
  k_place : PySem.W.keepIn K (.ref a.f_place) = true
  F_pair : Fun K "_check_pair" "_check_pair" s_pair a.f_pair a.d_pair
  b_pair : Binds K a.d_pair ["first", "second"] []
  g_pair : mg "_check_pair" = some (.ref a.f_pair)
  k_pair : PySem.W.keepIn K (.ref a.f_pair) = true
  F_before : Fun K "comes_before" "comes_before" s_before a.f_before a.d_before
  b_before : Binds K a.d_before ["first", "second"] []
  g_before : mg "comes_before" = some (.ref a.f_before)
  k_before : PySem.W.keepIn K (.ref a.f_before) = true
  F_divides : Fun K "divides" "divides" s_divides a.f_divides a.d_divides
  b_divides : Binds K a.d_divides ["first", "second"] []
  g_divides : mg "divides" = some (.ref a.f_divides)
  k_divides : PySem.W.keepIn K (.ref a.f_divides) = true
  F_mfac : Fun K "monomial_factorial" "monomial_factorial" s_mfac a.f_mfac a.d_mfac
  b_mfac : Binds K a.d_mfac ["exponents"] []
  g_mfac : mg "monomial_factorial" = some (.ref a.f_mfac)
  k_mfac : PySem.W.keepIn K (.ref a.f_mfac) = true
  F_lexp : Fun K "_law_exponents" "_law_exponents" s_lexp a.f_lexp a.d_lexp
  b_lexp : Binds K a.d_lexp ["pool", "dimension", "high"] []
  g_lexp : mg "_law_exponents" = some (.ref a.f_lexp)
  k_lexp : PySem.W.keepIn K (.ref a.f_lexp) = true
  F_lodeg : Fun K "_law_of_degree" "_law_of_degree" s_lodeg a.f_lodeg a.d_lodeg
  b_lodeg : Binds K a.d_lodeg ["pool", "dimension", "total"] []
  g_lodeg : mg "_law_of_degree" = some (.ref a.f_lodeg)
  k_lodeg : PySem.W.keepIn K (.ref a.f_lodeg) = true
  F_lsecond : Fun K "_law_second" "_law_second" s_lsecond a.f_lsecond a.d_lsecond
  b_lsecond : Binds K a.d_lsecond ["pool", "first"] []
  g_lsecond : mg "_law_second" = some (.ref a.f_lsecond)
  k_lsecond : PySem.W.keepIn K (.ref a.f_lsecond) = true
  F_lbefore : Fun K "_law_before" "_law_before" s_lbefore a.f_lbefore a.d_lbefore
  b_lbefore : Binds K a.d_lbefore ["first", "second"] []
  g_lbefore : mg "_law_before" = some (.ref a.f_lbefore)
  k_lbefore : PySem.W.keepIn K (.ref a.f_lbefore) = true
  F_lwithin : Fun K "_law_within" "_law_within" s_lwithin a.f_lwithin a.d_lwithin
  b_lwithin : Binds K a.d_lwithin ["first", "second"] []
  g_lwithin : mg "_law_within" = some (.ref a.f_lwithin)
  k_lwithin : PySem.W.keepIn K (.ref a.f_lwithin) = true
  F_lfac : Fun K "_law_factors" "_law_factors" s_lfac a.f_lfac a.d_lfac
  b_lfac : Binds K a.d_lfac ["exponents"] []
  g_lfac : mg "_law_factors" = some (.ref a.f_lfac)
  k_lfac : PySem.W.keepIn K (.ref a.f_lfac) = true
  F_lmany : Fun K "_law_many" "_law_many" s_lmany a.f_lmany a.d_lmany
  b_lmany : Binds K a.d_lmany ["dimension", "high"] []
  g_lmany : mg "_law_many" = some (.ref a.f_lmany)
  k_lmany : PySem.W.keepIn K (.ref a.f_lmany) = true
  F_listed : Fun K "_law_listed" "_law_listed" s_listed a.f_listed a.d_listed
  b_listed : Binds K a.d_listed ["told", "dimension", "low", "high", "many"] []
  g_listed : mg "_law_listed" = some (.ref a.f_listed)
  k_listed : PySem.W.keepIn K (.ref a.f_listed) = true
  F_says : Fun K "_law_says" "_law_says" s_says a.f_says a.d_says
  b_says : Binds K a.d_says ["told", "due"] []
  g_says : mg "_law_says" = some (.ref a.f_says)
  k_says : PySem.W.keepIn K (.ref a.f_says) = true
  F_relations : Fun K "_law_relations" "_law_relations" s_relations a.f_relations a.d_relations
  b_relations : Binds K a.d_relations ["first", "second"] []
  g_relations : mg "_law_relations" = some (.ref a.f_relations)
  k_relations : PySem.W.keepIn K (.ref a.f_relations) = true
  F_mod : Fun K "monomials_of_degree" "monomials_of_degree" s_mod a.f_mod a.d_mod
  b_mod : Binds K a.d_mod ["dimension", "degree"] []
  g_mod : mg "monomials_of_degree" = some (.ref a.f_mod)
  k_mod : PySem.W.keepIn K (.ref a.f_mod) = true
  F_up : Fun K "monomials_up_to" "monomials_up_to" s_up a.f_up a.d_up
  b_up : Binds K a.d_up ["dimension", "degree"] []
  g_up : mg "monomials_up_to" = some (.ref a.f_up)
  k_up : PySem.W.keepIn K (.ref a.f_up) = true
  F_lists : Fun K "_law_lists" "_law_lists" s_lists a.f_lists a.d_lists
  b_lists : Binds K a.d_lists ["dimension", "high"] []
  g_lists : mg "_law_lists" = some (.ref a.f_lists)
  k_lists : PySem.W.keepIn K (.ref a.f_lists) = true
  F_refused : Fun K "_law_refused" "_law_refused" s_refused a.f_refused a.d_refused
  b_refused : Binds K a.d_refused ["kind", "first", "second", "dimension", "high"] []
  g_refused : mg "_law_refused" = some (.ref a.f_refused)
  k_refused : PySem.W.keepIn K (.ref a.f_refused) = true
  F_idle : Fun K "_law_idle" "_law_idle" s_idle a.f_idle a.d_idle
  b_idle : Binds K a.d_idle ["dimension", "high"] []
  g_idle : mg "_law_idle" = some (.ref a.f_idle)
  k_idle : PySem.W.keepIn K (.ref a.f_idle) = true
  F_law : Fun K "law" "law" s_law a.f_law a.d_law
  b_law : Binds K a.d_law ["script"] []
  g_law : mg "law" = some (.ref a.f_law)
  k_law : PySem.W.keepIn K (.ref a.f_law) = true
section
variable {P : Program} {w : World} {K : PySem.W.Frag} {mg : Str → Option Value} {base : Heap} {a : Ad}
theorem ok_pool (T : Txt K mg a) : FnOk P w K mg base CX0 1 a.f_pool a.d_pool ["script"] (spPoolB K) := by
  refine T.F_pool.ok sc_pool (fun vs H Q E h => by first | (obtain ⟨_, rfl, _⟩ := h; rfl) | (obtain ⟨_, _, rfl, _⟩ := h; rfl) | (obtain ⟨_, _, _, rfl, _⟩ := h; rfl) | (obtain ⟨_, _, _, _, rfl, _⟩ := h; rfl) | (obtain ⟨_, _, _, _, _, rfl, _⟩ := h; rfl) | (obtain ⟨_, _, _, _, _, _, rfl, _⟩ := h; rfl) | (obtain ⟨_, _, _, _, _, _, _, rfl, _⟩ := h; rfl) | (obtain ⟨_, _, _, _, _, _, _, _, rfl, _⟩ := h; rfl) | (obtain ⟨_, _, _, _, _, _, _, _, _, rfl, _⟩ := h; rfl)) (fun cdv A outer s H vs Q E hr h => ⟨t_pool K, ?_, pure_poolB vs H Q E h⟩)
  exact (pss_cons (ps_set (i := 1) sc_pool.nd rfl (.inl rfl) (pe_lst pa_nil))
      (pss_cons (ps_set (i := 2) sc_pool.nd rfl (.inl rfl) (pe_lst pa_nil))
      (pss_cons (ps_for PassesOwn.never rfl (pi_list (pv 0)) (pg_name (i := 3) sc_pool.nd rfl (.inl rfl)) (pss_one (ps_if (pt_cmpR op_ge (pe_callB call_abs (by rfl) T.n_abs (by decide +kernel) (pa_cons (pe_callTy call_int1 (by rfl) T.n_int (by decide +kernel) (pa_cons (pv 3) pa_nil)) pa_nil)) (pe_op op_pow pe_int pe_int) (nomark _)) (pss_one (ps_expr (pe_bm PySem.F.plainAttrs_list PySem.F.slot_list_append PySem.F.type_list_append mt_append (pv 1) (pa_cons (pe_callB call_abs (by rfl) T.n_abs (by decide +kernel) (pa_cons (pe_callTy call_int1 (by rfl) T.n_int (by decide +kernel) (pa_cons (pv 3) pa_nil)) pa_nil)) pa_nil)))) (pss_one (ps_expr (pe_bm PySem.F.plainAttrs_list PySem.F.slot_list_append PySem.F.type_list_append mt_append (pv 2) (pa_cons (pe_callB call_abs (by rfl) T.n_abs (by decide +kernel) (pa_cons (pe_callTy call_int1 (by rfl) T.n_int (by decide +kernel) (pa_cons (pv 3) pa_nil)) pa_nil)) pa_nil)))))))
      (pss_cons (ps_if (pt_cmpR op_eq (pe_callB call_lenA (by rfl) T.n_len boot_len (pa_cons (pv 2) pa_nil)) pe_int (nomark _)) (pss_one (ps_expr (pe_bm PySem.F.plainAttrs_list PySem.F.slot_list_append PySem.F.type_list_append mt_append (pv 2) (pa_cons (pe_callB call_lenA (by rfl) T.n_len boot_len (pa_cons (pv 1) pa_nil)) pa_nil)))) pss_nil)
      (pss_one (ps_ret (pe_lst (pa_cons (pv 1) (pa_cons (pv 2) (pa_cons pe_int pa_nil))))))))))
theorem ok_take (T : Txt K mg a) : FnOk P w K mg base CX0 1 a.f_take a.d_take ["pool", "most"] spTakeB := by
  refine T.F_take.ok sc_take (fun vs H Q E h => by first | (obtain ⟨_, rfl, _⟩ := h; rfl) | (obtain ⟨_, _, rfl, _⟩ := h; rfl) | (obtain ⟨_, _, _, rfl, _⟩ := h; rfl) | (obtain ⟨_, _, _, _, rfl, _⟩ := h; rfl) | (obtain ⟨_, _, _, _, _, rfl, _⟩ := h; rfl) | (obtain ⟨_, _, _, _, _, _, rfl, _⟩ := h; rfl) | (obtain ⟨_, _, _, _, _, _, _, rfl, _⟩ := h; rfl) | (obtain ⟨_, _, _, _, _, _, _, _, rfl, _⟩ := h; rfl) | (obtain ⟨_, _, _, _, _, _, _, _, _, rfl, _⟩ := h; rfl)) (fun cdv A outer s H vs Q E hr h => ⟨t_take K, ?_, pure_takeB vs H Q E h⟩)
  exact (pss_cons (ps_if (pt_cmpR op_lt (pv 1) pe_int (nomark _)) (pss_one (ps_ret pe_int)) pss_nil)
      (pss_cons (ps_if (pt_cmpR op_gt (pe_callB call_lenA (by rfl) T.n_len boot_len (pa_cons (pe_ix ix_1 (pv 0) pe_int (fun _ _ => rfl)) pa_nil)) pe_int (nomark _)) (pss_cons (ps_set (i := 5) sc_take.nd rfl (.inl rfl) (pe_ix ix_1 (pe_ix ix_1 (pv 0) pe_int (fun _ _ => rfl)) pe_int (fun _ _ => rfl)))
      (pss_cons (ps_set (i := 6) sc_take.nd rfl (.inl rfl) (pe_callTy call_listA (by rfl) T.n_list (by decide +kernel) (pa_cons (pe_slice sl_A (pe_ix ix_1 (pv 0) pe_int (fun _ _ => rfl)) (po_some pe_int) po_none) pa_nil)))
      (pss_cons (ps_if (pt_cmpR op_gt (pe_op op_fdivF (pv 5) (pv 1)) pe_int (nomark _)) (pss_one (ps_set (i := 6) sc_take.nd rfl (.inl rfl) (pe_op op_cat (pe_lst (pa_cons (pe_op op_fdivF (pv 5) (pv 1)) pa_nil)) (pv 6)))) pss_nil)
      (pss_cons (ps_asg (pv 6) (pg_sub (pv 0) pe_int set_list))
      (pss_one (ps_ret (pe_op op_mod (pe_callTy call_int1 (by rfl) T.n_int (by decide +kernel) (pa_cons (pv 5) pa_nil)) (pv 1)))))))) pss_nil)
      (pss_cons (ps_set (i := 2) sc_take.nd rfl (.inl rfl) (pe_ix ix_1 (pv 0) pe_int (fun _ _ => rfl)))
      (pss_cons (ps_asg (pe_op op_add (pv 2) pe_int) (pg_sub (pv 0) pe_int set_list))
      (pss_cons (ps_set (i := 3) sc_take.nd rfl (.inl rfl) (pe_ix ix_1 (pe_ix ix_1 (pv 0) pe_int (fun _ _ => rfl)) (pe_op op_mod (pe_callTy call_int1 (by rfl) T.n_int (by decide +kernel) (pa_cons (pe_op op_fdivF (pv 2) pe_int) pa_nil)) (pe_callB call_lenA (by rfl) T.n_len boot_len (pa_cons (pe_ix ix_1 (pv 0) pe_int (fun _ _ => rfl)) pa_nil))) (fun _ _ => rfl)))
      (pss_cons (ps_set (i := 4) sc_take.nd rfl (.inl rfl) (pe_op op_mod (pe_callTy call_int1 (by rfl) T.n_int (by decide +kernel) (pa_cons (pe_op op_add (pe_op op_add (pe_op op_mulI (pv 3) pe_int) (pe_op op_mulI (pv 2) pe_int)) pe_int) pa_nil)) pe_int))
      (pss_cons (ps_set (i := 4) sc_take.nd rfl (.inl rfl) (pe_op op_mod (pe_callTy call_int1 (by rfl) T.n_int (by decide +kernel) (pa_cons (pe_op op_add (pe_op op_add (pe_op op_mulI (pv 4) (pv 4)) (pe_op op_mulI (pv 2) pe_int)) pe_int) pa_nil)) pe_int))
      (pss_cons (ps_set (i := 4) sc_take.nd rfl (.inl rfl) (pe_op op_mod (pe_callTy call_int1 (by rfl) T.n_int (by decide +kernel) (pa_cons (pe_op op_add (pe_op op_add (pe_op op_mulI (pv 4) (pv 4)) (pv 3)) pe_int) pa_nil)) pe_int))
      (pss_one (ps_ret (pe_op op_mod (pe_callTy call_int1 (by rfl) T.n_int (by decide +kernel) (pa_cons (pe_op op_fdivF (pv 4) pe_int) pa_nil)) (pv 1))))))))))))
theorem ok_integer (T : Txt K mg a) : FnOk P w K mg base CX0 1 a.f_integer a.d_integer ["thing"] spInteger := by
  refine T.F_integer.ok sc_integer (fun vs H Q E h => by first | (obtain ⟨_, rfl, _⟩ := h; rfl) | (obtain ⟨_, _, rfl, _⟩ := h; rfl) | (obtain ⟨_, _, _, rfl, _⟩ := h; rfl) | (obtain ⟨_, _, _, _, rfl, _⟩ := h; rfl) | (obtain ⟨_, _, _, _, _, rfl, _⟩ := h; rfl) | (obtain ⟨_, _, _, _, _, _, rfl, _⟩ := h; rfl) | (obtain ⟨_, _, _, _, _, _, _, rfl, _⟩ := h; rfl) | (obtain ⟨_, _, _, _, _, _, _, _, rfl, _⟩ := h; rfl) | (obtain ⟨_, _, _, _, _, _, _, _, _, rfl, _⟩ := h; rfl)) (fun cdv A outer s H vs Q E hr h => ⟨t_integer K, ?_, pure_integer vs H Q E h⟩)
  exact (pss_one (ps_ret (pe_and (pe_callB call_isi (by rfl) T.n_isinstance (by decide +kernel) (pa_cons (pv 0) (pa_cons (pe_bltn (by rfl) T.n_int (by decide +kernel) rfl) pa_nil))) (pe_one (pe_not (pe_callB call_isi (by rfl) T.n_isinstance (by decide +kernel) (pa_cons (pv 0) (pa_cons (pe_bltn (by rfl) T.n_bool (by decide +kernel) rfl) pa_nil))))))))
theorem ok_chk (T : Txt K mg a) : FnOk P w K mg base (L2.CX P w) 1 a.f_chk a.d_chk ["dimension"] (spChk a.WD) := by
  refine T.F_chk.okX sc_chk (fun vs H Q E h => by first | (obtain ⟨_, rfl, _⟩ := h; rfl) | (obtain ⟨_, _, rfl, _⟩ := h; rfl) | (obtain ⟨_, _, _, rfl, _⟩ := h; rfl) | (obtain ⟨_, _, _, _, rfl, _⟩ := h; rfl) | (obtain ⟨_, _, _, _, _, rfl, _⟩ := h; rfl) | (obtain ⟨_, _, _, _, _, _, rfl, _⟩ := h; rfl) | (obtain ⟨_, _, _, _, _, _, _, rfl, _⟩ := h; rfl) | (obtain ⟨_, _, _, _, _, _, _, _, rfl, _⟩ := h; rfl) | (obtain ⟨_, _, _, _, _, _, _, _, _, rfl, _⟩ := h; rfl)) (fun cdv A outer s H vs Q E hr h => ⟨t_chk K a.WD E, ?_, pure_chk vs H Q E h⟩)
  exact (pss_one (ps_if (PW.pt (pw_or (pt_cmpR op_lt (pv 0) pe_int (nomark _)) (pw_or1 (pt_cmpR op_gt (pv 0) (pe_gk rfl T.c_DIMENSIONS) (nomark _))))) (pss_one (ps_raise (W := fun cls d _ H => E cls d H) (t := fun _ H Q => Q (.ref a.WD) none H) rfl (takes_of rfl rfl rfl rfl) (pmk_own PySem.F.excBase_ValueError T.xW T.gW T.kW (raises_own T.bW T.tW) rfl))) pss_nil))
theorem ok_chke (T : Txt K mg a) : FnOk P w K mg base (L2.CX P w) 1 a.f_chke a.d_chke ["entries", "dimension"] (spChke a.WD) := by
  refine T.F_chke.okX sc_chke (fun vs H Q E h => by first | (obtain ⟨_, rfl, _⟩ := h; rfl) | (obtain ⟨_, _, rfl, _⟩ := h; rfl) | (obtain ⟨_, _, _, rfl, _⟩ := h; rfl) | (obtain ⟨_, _, _, _, rfl, _⟩ := h; rfl) | (obtain ⟨_, _, _, _, _, rfl, _⟩ := h; rfl) | (obtain ⟨_, _, _, _, _, _, rfl, _⟩ := h; rfl) | (obtain ⟨_, _, _, _, _, _, _, rfl, _⟩ := h; rfl) | (obtain ⟨_, _, _, _, _, _, _, _, rfl, _⟩ := h; rfl) | (obtain ⟨_, _, _, _, _, _, _, _, _, rfl, _⟩ := h; rfl)) (fun cdv A outer s H vs Q E hr h => ⟨t_chke K a.WD E, ?_, pure_chke vs H Q E h⟩)
  exact (pss_one (ps_if (pt_cmpR op_ne (pe_callB call_lenA (by rfl) T.n_len boot_len (pa_cons (pv 0) pa_nil)) (pv 1) (nomark _)) (pss_one (ps_raise (W := fun cls d _ H => E cls d H) (t := fun _ H Q => Q (.ref a.WD) none H) rfl (takes_of rfl rfl rfl rfl) (pmk_own PySem.F.excBase_ValueError T.xW T.gW T.kW (raises_own T.bW T.tW) rfl))) pss_nil))
theorem ok_place (T : Txt K mg a) : FnOk P w K mg base CX0 1 a.f_place a.d_place ["exponents"] spPlace := by
  refine T.F_place.ok sc_place (fun vs H Q E h => by first | (obtain ⟨_, rfl, _⟩ := h; rfl) | (obtain ⟨_, _, rfl, _⟩ := h; rfl) | (obtain ⟨_, _, _, rfl, _⟩ := h; rfl) | (obtain ⟨_, _, _, _, rfl, _⟩ := h; rfl) | (obtain ⟨_, _, _, _, _, rfl, _⟩ := h; rfl) | (obtain ⟨_, _, _, _, _, _, rfl, _⟩ := h; rfl) | (obtain ⟨_, _, _, _, _, _, _, rfl, _⟩ := h; rfl) | (obtain ⟨_, _, _, _, _, _, _, _, rfl, _⟩ := h; rfl) | (obtain ⟨_, _, _, _, _, _, _, _, _, rfl, _⟩ := h; rfl)) (fun cdv A outer s H vs Q E hr h => ⟨t_place K a.WD E, ?_, pure_place vs H Q E h⟩)
  exact (pss_one (ps_ret (pe_tup (pa_cons (pe_callB (call_sumA rfl) (by rfl) T.n_sum (by decide +kernel) (pa_cons (pv 0) pa_nil)) (pa_star (pe_lc (own := [("exponent", 1)]) (g := (gName 1)) (tt := tYes) (by rfl) sc_place.nd (pi_tup (pv 0)) (blkOk_by (own := [("exponent", 1)]) (N := ["exponents", "exponent"]) (sc := defScope s_place) (by decide +kernel)) (fun _ _ _ _ _ => (pg_name (i := 1) sc_place.nd rfl (.inl rfl))) (fun _ _ _ _ _ => pts_nil) (fun _ _ _ _ _ => (pe_un un_neg (pv 1)))) pa_nil)))))
theorem ok_pair (T : Txt K mg a) : FnOk P w K mg base (L2.CX P w) 2 a.f_pair a.d_pair ["first", "second"] (spPair a.WD) := by
  have G_chk := ok_chk (P := P) (w := w) (base := base) T
  have G_chke := ok_chke (P := P) (w := w) (base := base) T
  refine T.F_pair.okX sc_pair (fun vs H Q E h => by first | (obtain ⟨_, rfl, _⟩ := h; rfl) | (obtain ⟨_, _, rfl, _⟩ := h; rfl) | (obtain ⟨_, _, _, rfl, _⟩ := h; rfl) | (obtain ⟨_, _, _, _, rfl, _⟩ := h; rfl) | (obtain ⟨_, _, _, _, _, rfl, _⟩ := h; rfl) | (obtain ⟨_, _, _, _, _, _, rfl, _⟩ := h; rfl) | (obtain ⟨_, _, _, _, _, _, _, rfl, _⟩ := h; rfl) | (obtain ⟨_, _, _, _, _, _, _, _, rfl, _⟩ := h; rfl) | (obtain ⟨_, _, _, _, _, _, _, _, _, rfl, _⟩ := h; rfl)) (fun cdv A outer s H vs Q E hr h => ⟨t_pair K a.WD E, ?_, pure_pair vs H Q E h⟩)
  exact (pss_cons (ps_expr (pe_call G_chk (hr.mono (by decide)) rfl T.g_chk T.k_chk T.b_chk .nil (passes_call (takes_of rfl rfl rfl rfl) (fun _ _ _ _ h => h)) (pa_cons (pe_callB call_lenA (by rfl) T.n_len boot_len (pa_cons (pv 0) pa_nil)) pa_nil)))
      (pss_one (ps_expr (pe_call G_chke (hr.mono (by decide)) rfl T.g_chke T.k_chke T.b_chke .nil (passes_call (takes_of rfl rfl rfl rfl) (fun _ _ _ _ h => h)) (pa_cons (pv 1) (pa_cons (pe_callB call_lenA (by rfl) T.n_len boot_len (pa_cons (pv 0) pa_nil)) pa_nil))))))
theorem ok_before (T : Txt K mg a) : FnOk P w K mg base (L2.CX P w) 3 a.f_before a.d_before ["first", "second"] (spBefore a.WD) := by
  have G_pair := ok_pair (P := P) (w := w) (base := base) T
  have G_place := ok_place (P := P) (w := w) (base := base) T
  refine T.F_before.okX sc_before (fun vs H Q E h => by first | (obtain ⟨_, rfl, _⟩ := h; rfl) | (obtain ⟨_, _, rfl, _⟩ := h; rfl) | (obtain ⟨_, _, _, rfl, _⟩ := h; rfl) | (obtain ⟨_, _, _, _, rfl, _⟩ := h; rfl) | (obtain ⟨_, _, _, _, _, rfl, _⟩ := h; rfl) | (obtain ⟨_, _, _, _, _, _, rfl, _⟩ := h; rfl) | (obtain ⟨_, _, _, _, _, _, _, rfl, _⟩ := h; rfl) | (obtain ⟨_, _, _, _, _, _, _, _, rfl, _⟩ := h; rfl) | (obtain ⟨_, _, _, _, _, _, _, _, _, rfl, _⟩ := h; rfl)) (fun cdv A outer s H vs Q E hr h => ⟨t_before K a.WD E, ?_, pure_before vs H Q E h⟩)
  exact (pss_cons (ps_expr (pe_call G_pair (hr.mono (by decide)) rfl T.g_pair T.k_pair T.b_pair .nil (passes_call (takes_of rfl rfl rfl rfl) (fun _ _ _ _ h => h)) (pa_cons (pv 0) (pa_cons (pv 1) pa_nil))))
      (pss_one (ps_ret (pe_cmpR (op_ltA hr.units0) (pe_call G_place (hr.mono (by decide)) rfl T.g_place T.k_place T.b_place .nil pass0 (pa_cons (pv 0) pa_nil)) (pe_call G_place (hr.mono (by decide)) rfl T.g_place T.k_place T.b_place .nil pass0 (pa_cons (pv 1) pa_nil)) (nomark _)))))
theorem ok_divides (T : Txt K mg a) : FnOk P w K mg base (L2.CX P w) 3 a.f_divides a.d_divides ["first", "second"] (spDivides a.WD) := by
  have G_pair := ok_pair (P := P) (w := w) (base := base) T
  refine T.F_divides.okX sc_divides (fun vs H Q E h => by first | (obtain ⟨_, rfl, _⟩ := h; rfl) | (obtain ⟨_, _, rfl, _⟩ := h; rfl) | (obtain ⟨_, _, _, rfl, _⟩ := h; rfl) | (obtain ⟨_, _, _, _, rfl, _⟩ := h; rfl) | (obtain ⟨_, _, _, _, _, rfl, _⟩ := h; rfl) | (obtain ⟨_, _, _, _, _, _, rfl, _⟩ := h; rfl) | (obtain ⟨_, _, _, _, _, _, _, rfl, _⟩ := h; rfl) | (obtain ⟨_, _, _, _, _, _, _, _, rfl, _⟩ := h; rfl) | (obtain ⟨_, _, _, _, _, _, _, _, _, rfl, _⟩ := h; rfl)) (fun cdv A outer s H vs Q E hr h => ⟨t_divides K a.WD E, ?_, pure_divides vs H Q E h⟩)
  exact (pss_cons (ps_expr (pe_call G_pair (hr.mono (by decide)) rfl T.g_pair T.k_pair T.b_pair .nil (passes_call (takes_of rfl rfl rfl rfl) (fun _ _ _ _ h => h)) (pa_cons (pv 0) (pa_cons (pv 1) pa_nil))))
      (pss_one (ps_ret (pe_callB (cr_allA rfl) (by rfl) T.n_all (by decide +kernel) (pa_cons (pe_lc (own := [("low", 2), ("high", 3)]) (g := (gTup K 2 (gCons (gName 2) (gCons (gName 3) gNil)))) (tt := tYes) (by rfl) sc_divides.nd (pi_zipA rfl T.n_zip (pa_cons (pv 0) (pa_cons (pv 1) pa_nil))) (blkOk_by (own := [("low", 2), ("high", 3)]) (N := ["first", "second", "low", "high"]) (sc := defScope s_divides) (by decide +kernel)) (fun _ _ _ _ _ => (pg_tup rfl (pgs_cons (pg_name (i := 2) sc_divides.nd rfl (.inl rfl)) (pgs_cons (pg_name (i := 3) sc_divides.nd rfl (.inl rfl)) pgs_nil)))) (fun _ _ _ _ _ => pts_nil) (fun _ _ _ _ _ => (pe_cmpR op_le (pv 2) (pv 3) (nomark _)))) pa_nil)))))
theorem ok_mfac (T : Txt K mg a) : FnOk P w K mg base (L2.CX P w) 2 a.f_mfac a.d_mfac ["exponents"] (spMfac a.WD) := by
  have G_chk := ok_chk (P := P) (w := w) (base := base) T
  refine T.F_mfac.okX sc_mfac (fun vs H Q E h => by first | (obtain ⟨_, rfl, _⟩ := h; rfl) | (obtain ⟨_, _, rfl, _⟩ := h; rfl) | (obtain ⟨_, _, _, rfl, _⟩ := h; rfl) | (obtain ⟨_, _, _, _, rfl, _⟩ := h; rfl) | (obtain ⟨_, _, _, _, _, rfl, _⟩ := h; rfl) | (obtain ⟨_, _, _, _, _, _, rfl, _⟩ := h; rfl) | (obtain ⟨_, _, _, _, _, _, _, rfl, _⟩ := h; rfl) | (obtain ⟨_, _, _, _, _, _, _, _, rfl, _⟩ := h; rfl) | (obtain ⟨_, _, _, _, _, _, _, _, _, rfl, _⟩ := h; rfl)) (fun cdv A outer s H vs Q E hr h => ⟨t_mfac K a.WD E, ?_, pure_mfac vs H Q E h⟩)
  exact (pss_cons (ps_expr (pe_call G_chk (hr.mono (by decide)) rfl T.g_chk T.k_chk T.b_chk .nil (passes_call (takes_of rfl rfl rfl rfl) (fun _ _ _ _ h => h)) (pa_cons (pe_callB call_lenA (by rfl) T.n_len boot_len (pa_cons (pv 0) pa_nil)) pa_nil)))
      (pss_cons (ps_set (i := 1) sc_mfac.nd rfl (.inl rfl) pe_int)
      (pss_cons (ps_for (passes_of rfl) rfl (pi_tup (pv 0)) (pg_name (i := 2) sc_mfac.nd rfl (.inl rfl)) (pss_one (ps_set (i := 1) sc_mfac.nd rfl (.inl rfl) (pe_op op_mulI (pv 1) (pe_callBfun cr_fac (by rfl) T.g_factorial (pa_cons (pv 2) pa_nil))))))
      (pss_one (ps_ret (pv 1))))))
theorem ok_lexp (T : Txt K mg a) : FnOk P w K mg base CX0 2 a.f_lexp a.d_lexp ["pool", "dimension", "high"] spLexp := by
  have G_take := ok_take (P := P) (w := w) (base := base) T
  refine T.F_lexp.ok sc_lexp (fun vs H Q E h => by first | (obtain ⟨_, rfl, _⟩ := h; rfl) | (obtain ⟨_, _, rfl, _⟩ := h; rfl) | (obtain ⟨_, _, _, rfl, _⟩ := h; rfl) | (obtain ⟨_, _, _, _, rfl, _⟩ := h; rfl) | (obtain ⟨_, _, _, _, _, rfl, _⟩ := h; rfl) | (obtain ⟨_, _, _, _, _, _, rfl, _⟩ := h; rfl) | (obtain ⟨_, _, _, _, _, _, _, rfl, _⟩ := h; rfl) | (obtain ⟨_, _, _, _, _, _, _, _, rfl, _⟩ := h; rfl) | (obtain ⟨_, _, _, _, _, _, _, _, _, rfl, _⟩ := h; rfl)) (fun cdv A outer s H vs Q E hr h => ⟨t_lexp K a.WD E, ?_, pure_lexp vs H Q E h⟩)
  exact (pss_cons (ps_set (i := 3) sc_lexp.nd rfl (.inl rfl) (pv 2))
      (pss_cons (ps_set (i := 4) sc_lexp.nd rfl (.inl rfl) (pe_lst pa_nil))
      (pss_cons (ps_for PassesOwn.never rfl (pi_range1 rfl T.n_range (pa_cons (pv 1) pa_nil)) (pg_name (i := 5) sc_lexp.nd rfl (.inl rfl)) (pss_cons (ps_set (i := 7) sc_lexp.nd rfl (.inl rfl) (pe_call G_take (hr.mono (by decide)) rfl T.g_take T.k_take T.b_take .nil pass0 (pa_cons (pv 0) (pa_cons (pe_op op_add (pv 3) pe_int) pa_nil))))
      (pss_cons (ps_set (i := 3) sc_lexp.nd rfl (.inl rfl) (pe_op op_sub (pv 3) (pv 7)))
      (pss_one (ps_expr (pe_bm PySem.F.plainAttrs_list PySem.F.slot_list_append PySem.F.type_list_append mt_append (pv 4) (pa_cons (pv 7) pa_nil)))))))
      (pss_cons (ps_set (i := 6) sc_lexp.nd rfl (.inl rfl) (pe_call G_take (hr.mono (by decide)) rfl T.g_take T.k_take T.b_take .nil pass0 (pa_cons (pv 0) (pa_cons (pv 1) pa_nil))))
      (pss_one (ps_ret (pe_callTy call_tupA (by rfl) T.n_tuple (by decide +kernel) (pa_cons (pe_op op_cat (pe_slice sl_A (pv 4) (po_some (pv 6)) po_none) (pe_slice sl_A (pv 4) po_none (po_some (pv 6)))) pa_nil))))))))
theorem ok_lodeg (T : Txt K mg a) : FnOk P w K mg base CX0 3 a.f_lodeg a.d_lodeg ["pool", "dimension", "total"] spLodeg := by
  have G_lexp := ok_lexp (P := P) (w := w) (base := base) T
  have G_take := ok_take (P := P) (w := w) (base := base) T
  refine T.F_lodeg.ok sc_lodeg (fun vs H Q E h => by first | (obtain ⟨_, rfl, _⟩ := h; rfl) | (obtain ⟨_, _, rfl, _⟩ := h; rfl) | (obtain ⟨_, _, _, rfl, _⟩ := h; rfl) | (obtain ⟨_, _, _, _, rfl, _⟩ := h; rfl) | (obtain ⟨_, _, _, _, _, rfl, _⟩ := h; rfl) | (obtain ⟨_, _, _, _, _, _, rfl, _⟩ := h; rfl) | (obtain ⟨_, _, _, _, _, _, _, rfl, _⟩ := h; rfl) | (obtain ⟨_, _, _, _, _, _, _, _, rfl, _⟩ := h; rfl) | (obtain ⟨_, _, _, _, _, _, _, _, _, rfl, _⟩ := h; rfl)) (fun cdv A outer s H vs Q E hr h => ⟨t_lodeg K a.WD E, ?_, pure_lodeg vs H Q E h⟩)
  exact (pss_cons (ps_set (i := 3) sc_lodeg.nd rfl (.inl rfl) (pe_callTy call_listA (by rfl) T.n_list (by decide +kernel) (pa_cons (pe_call G_lexp (hr.mono (by decide)) rfl T.g_lexp T.k_lexp T.b_lexp .nil pass0 (pa_cons (pv 0) (pa_cons (pv 1) (pa_cons (pv 2) pa_nil)))) pa_nil)))
      (pss_cons (ps_set (i := 4) sc_lodeg.nd rfl (.inl rfl) (pe_call G_take (hr.mono (by decide)) rfl T.g_take T.k_take T.b_take .nil pass0 (pa_cons (pv 0) (pa_cons (pv 1) pa_nil))))
      (pss_cons (ps_asg (pe_op op_sub (pe_op op_add (pe_ix ix_1 (pv 3) (pv 4) (fun _ _ => rfl)) (pv 2)) (pe_callB (call_sumA rfl) (by rfl) T.n_sum (by decide +kernel) (pa_cons (pv 3) pa_nil))) (pg_sub (pv 3) (pv 4) set_list))
      (pss_one (ps_ret (pe_callTy call_tupA (by rfl) T.n_tuple (by decide +kernel) (pa_cons (pv 3) pa_nil)))))))
theorem ok_lsecond (T : Txt K mg a) : FnOk P w K mg base CX0 4 a.f_lsecond a.d_lsecond ["pool", "first"] spLsecond := by
  have G_lexp := ok_lexp (P := P) (w := w) (base := base) T
  have G_lodeg := ok_lodeg (P := P) (w := w) (base := base) T
  have G_take := ok_take (P := P) (w := w) (base := base) T
  refine T.F_lsecond.ok sc_lsecond (fun vs H Q E h => by first | (obtain ⟨_, rfl, _⟩ := h; rfl) | (obtain ⟨_, _, rfl, _⟩ := h; rfl) | (obtain ⟨_, _, _, rfl, _⟩ := h; rfl) | (obtain ⟨_, _, _, _, rfl, _⟩ := h; rfl) | (obtain ⟨_, _, _, _, _, rfl, _⟩ := h; rfl) | (obtain ⟨_, _, _, _, _, _, rfl, _⟩ := h; rfl) | (obtain ⟨_, _, _, _, _, _, _, rfl, _⟩ := h; rfl) | (obtain ⟨_, _, _, _, _, _, _, _, rfl, _⟩ := h; rfl) | (obtain ⟨_, _, _, _, _, _, _, _, _, rfl, _⟩ := h; rfl)) (fun cdv A outer s H vs Q E hr h => ⟨t_lsecond K a.WD E, ?_, pure_lsecond vs H Q E h⟩)
  exact (pss_cons (ps_set (i := 2) sc_lsecond.nd rfl (.inl rfl) (pe_call G_take (hr.mono (by decide)) rfl T.g_take T.k_take T.b_take .nil pass0 (pa_cons (pv 0) (pa_cons pe_int pa_nil))))
      (pss_cons (ps_if (pt_cmpR op_lt (pv 2) pe_int (nomark _)) (pss_one (ps_ret (pe_call G_lodeg (hr.mono (by decide)) rfl T.g_lodeg T.k_lodeg T.b_lodeg .nil pass0 (pa_cons (pv 0) (pa_cons (pe_callB call_lenA (by rfl) T.n_len boot_len (pa_cons (pv 1) pa_nil)) (pa_cons (pe_callB (call_sumA rfl) (by rfl) T.n_sum (by decide +kernel) (pa_cons (pv 1) pa_nil)) pa_nil)))))) pss_nil)
      (pss_cons (ps_if (pt_cmpR op_lt (pv 2) pe_int (nomark _)) (pss_cons (ps_set (i := 3) sc_lsecond.nd rfl (.inr rfl) (pe_call G_lexp (hr.mono (by decide)) rfl T.g_lexp T.k_lexp T.b_lexp .nil pass0 (pa_cons (pv 0) (pa_cons (pe_callB call_lenA (by rfl) T.n_len boot_len (pa_cons (pv 1) pa_nil)) (pa_cons (pe_op op_sub pe_int (pe_callB (call_sumA rfl) (by rfl) T.n_sum (by decide +kernel) (pa_cons (pv 1) pa_nil))) pa_nil)))))
      (pss_one (ps_ret (pe_callTy call_tupA (by rfl) T.n_tuple (by decide +kernel) (pa_cons (pe_lc (own := [("k", 4)]) (g := (gName 4)) (tt := tYes) (by rfl) sc_lsecond.nd (pi_range1 rfl T.n_range (pa_cons (pe_callB call_lenA (by rfl) T.n_len boot_len (pa_cons (pv 1) pa_nil)) pa_nil)) (blkOk_by (own := [("k", 4)]) (N := ["pool", "first", "kind", "more", "k", "exponent"]) (sc := defScope s_lsecond) (by decide +kernel)) (fun _ _ _ _ _ => (pg_name (i := 4) sc_lsecond.nd rfl (.inl rfl))) (fun _ _ _ _ _ => pts_nil) (fun _ _ _ _ _ => (pe_op op_add (pe_ix ix_1 (pv 1) (pv 4) (fun _ _ => rfl)) (pe_ix ix_1 (pv 3) (pv 4) (fun _ _ => rfl))))) pa_nil))))) pss_nil)
      (pss_cons (ps_if (pt_cmpR op_eq (pv 2) pe_int (nomark _)) (pss_one (ps_ret (pe_callTy call_tupA (by rfl) T.n_tuple (by decide +kernel) (pa_cons (pe_callTy call_listA (by rfl) T.n_list (by decide +kernel) (pa_cons (pv 1) pa_nil)) pa_nil)))) pss_nil)
      (pss_cons (ps_if (pt_cmpR op_eq (pv 2) pe_int (nomark _)) (pss_one (ps_ret (pe_callTy call_tupA (by rfl) T.n_tuple (by decide +kernel) (pa_cons (pe_lc (own := [("exponent", 5)]) (g := (gName 5)) (tt := tYes) (by rfl) sc_lsecond.nd (pi_tup (pv 1)) (blkOk_by (own := [("exponent", 5)]) (N := ["pool", "first", "kind", "more", "k", "exponent"]) (sc := defScope s_lsecond) (by decide +kernel)) (fun _ _ _ _ _ => (pg_name (i := 5) sc_lsecond.nd rfl (.inl rfl))) (fun _ _ _ _ _ => pts_nil) (fun _ _ _ _ _ => (pe_call G_take (hr.mono (by decide)) rfl T.g_take T.k_take T.b_take .nil pass0 (pa_cons (pv 0) (pa_cons (pe_op op_add (pv 5) pe_int) pa_nil))))) pa_nil)))) pss_nil)
      (pss_one (ps_ret (pe_call G_lexp (hr.mono (by decide)) rfl T.g_lexp T.k_lexp T.b_lexp .nil pass0 (pa_cons (pv 0) (pa_cons (pe_callB call_lenA (by rfl) T.n_len boot_len (pa_cons (pv 1) pa_nil)) (pa_cons pe_int pa_nil)))))))))))
theorem ok_lbefore (T : Txt K mg a) : FnOk P w K mg base CX0 1 a.f_lbefore a.d_lbefore ["first", "second"] spLbefore := by
  refine T.F_lbefore.ok sc_lbefore (fun vs H Q E h => by first | (obtain ⟨_, rfl, _⟩ := h; rfl) | (obtain ⟨_, _, rfl, _⟩ := h; rfl) | (obtain ⟨_, _, _, rfl, _⟩ := h; rfl) | (obtain ⟨_, _, _, _, rfl, _⟩ := h; rfl) | (obtain ⟨_, _, _, _, _, rfl, _⟩ := h; rfl) | (obtain ⟨_, _, _, _, _, _, rfl, _⟩ := h; rfl) | (obtain ⟨_, _, _, _, _, _, _, rfl, _⟩ := h; rfl) | (obtain ⟨_, _, _, _, _, _, _, _, rfl, _⟩ := h; rfl) | (obtain ⟨_, _, _, _, _, _, _, _, _, rfl, _⟩ := h; rfl)) (fun cdv A outer s H vs Q E hr h => ⟨t_lbefore K a.WD E, ?_, pure_lbefore vs H Q E h⟩)
  exact (pss_cons (ps_if (pt_cmpR op_ne (pe_callB (call_sumA rfl) (by rfl) T.n_sum (by decide +kernel) (pa_cons (pv 0) pa_nil)) (pe_callB (call_sumA rfl) (by rfl) T.n_sum (by decide +kernel) (pa_cons (pv 1) pa_nil)) (nomark _)) (pss_one (ps_ret (pe_cmpR op_lt (pe_callB (call_sumA rfl) (by rfl) T.n_sum (by decide +kernel) (pa_cons (pv 0) pa_nil)) (pe_callB (call_sumA rfl) (by rfl) T.n_sum (by decide +kernel) (pa_cons (pv 1) pa_nil)) (nomark _)))) pss_nil)
      (pss_cons (ps_for PassesOwn.never rfl (pi_range1 rfl T.n_range (pa_cons (pe_callB call_lenA (by rfl) T.n_len boot_len (pa_cons (pv 0) pa_nil)) pa_nil)) (pg_name (i := 2) sc_lbefore.nd rfl (.inl rfl)) (pss_one (ps_if (pt_cmpR op_ne (pe_ix ix_1 (pv 0) (pv 2) (fun _ _ => rfl)) (pe_ix ix_1 (pv 1) (pv 2) (fun _ _ => rfl)) (nomark _)) (pss_one (ps_ret (pe_cmpR op_gt (pe_ix ix_1 (pv 0) (pv 2) (fun _ _ => rfl)) (pe_ix ix_1 (pv 1) (pv 2) (fun _ _ => rfl)) (nomark _)))) pss_nil)))
      (pss_one (ps_ret pe_bl))))
theorem ok_lwithin (T : Txt K mg a) : FnOk P w K mg base CX0 1 a.f_lwithin a.d_lwithin ["first", "second"] spLwithin := by
  refine T.F_lwithin.ok sc_lwithin (fun vs H Q E h => by first | (obtain ⟨_, rfl, _⟩ := h; rfl) | (obtain ⟨_, _, rfl, _⟩ := h; rfl) | (obtain ⟨_, _, _, rfl, _⟩ := h; rfl) | (obtain ⟨_, _, _, _, rfl, _⟩ := h; rfl) | (obtain ⟨_, _, _, _, _, rfl, _⟩ := h; rfl) | (obtain ⟨_, _, _, _, _, _, rfl, _⟩ := h; rfl) | (obtain ⟨_, _, _, _, _, _, _, rfl, _⟩ := h; rfl) | (obtain ⟨_, _, _, _, _, _, _, _, rfl, _⟩ := h; rfl) | (obtain ⟨_, _, _, _, _, _, _, _, _, rfl, _⟩ := h; rfl)) (fun cdv A outer s H vs Q E hr h => ⟨t_lwithin K a.WD E, ?_, pure_lwithin vs H Q E h⟩)
  exact (pss_cons (ps_for PassesOwn.never rfl (pi_range1 rfl T.n_range (pa_cons (pe_callB call_lenA (by rfl) T.n_len boot_len (pa_cons (pv 0) pa_nil)) pa_nil)) (pg_name (i := 2) sc_lwithin.nd rfl (.inl rfl)) (pss_one (ps_if (pt_cmpR op_gt (pe_ix ix_1 (pv 0) (pv 2) (fun _ _ => rfl)) (pe_ix ix_1 (pv 1) (pv 2) (fun _ _ => rfl)) (nomark _)) (pss_one (ps_ret pe_bl)) pss_nil)))
      (pss_one (ps_ret pe_bl)))
theorem ok_lfac (T : Txt K mg a) : FnOk P w K mg base CX0 1 a.f_lfac a.d_lfac ["exponents"] spLfac := by
  refine T.F_lfac.ok sc_lfac (fun vs H Q E h => by first | (obtain ⟨_, rfl, _⟩ := h; rfl) | (obtain ⟨_, _, rfl, _⟩ := h; rfl) | (obtain ⟨_, _, _, rfl, _⟩ := h; rfl) | (obtain ⟨_, _, _, _, rfl, _⟩ := h; rfl) | (obtain ⟨_, _, _, _, _, rfl, _⟩ := h; rfl) | (obtain ⟨_, _, _, _, _, _, rfl, _⟩ := h; rfl) | (obtain ⟨_, _, _, _, _, _, _, rfl, _⟩ := h; rfl) | (obtain ⟨_, _, _, _, _, _, _, _, rfl, _⟩ := h; rfl) | (obtain ⟨_, _, _, _, _, _, _, _, _, rfl, _⟩ := h; rfl)) (fun cdv A outer s H vs Q E hr h => ⟨t_lfac K a.WD E, ?_, pure_lfac vs H Q E h⟩)
  exact (pss_cons (ps_set (i := 1) sc_lfac.nd rfl (.inl rfl) pe_int)
      (pss_cons (ps_for PassesOwn.never rfl (pi_tup (pv 0)) (pg_name (i := 2) sc_lfac.nd rfl (.inl rfl)) (pss_one (ps_for PassesOwn.never rfl (pi_range1 rfl T.n_range (pa_cons (pv 2) pa_nil)) (pg_name (i := 3) sc_lfac.nd rfl (.inl rfl)) (pss_one (ps_set (i := 1) sc_lfac.nd rfl (.inl rfl) (pe_op op_mulI (pv 1) (pe_op op_add (pv 3) pe_int)))))))
      (pss_one (ps_ret (pv 1)))))
theorem ok_lmany (T : Txt K mg a) : FnOk P w K mg base CX0 1 a.f_lmany a.d_lmany ["dimension", "high"] spLmany := by
  refine T.F_lmany.ok sc_lmany (fun vs H Q E h => by first | (obtain ⟨_, rfl, _⟩ := h; rfl) | (obtain ⟨_, _, rfl, _⟩ := h; rfl) | (obtain ⟨_, _, _, rfl, _⟩ := h; rfl) | (obtain ⟨_, _, _, _, rfl, _⟩ := h; rfl) | (obtain ⟨_, _, _, _, _, rfl, _⟩ := h; rfl) | (obtain ⟨_, _, _, _, _, _, rfl, _⟩ := h; rfl) | (obtain ⟨_, _, _, _, _, _, _, rfl, _⟩ := h; rfl) | (obtain ⟨_, _, _, _, _, _, _, _, rfl, _⟩ := h; rfl) | (obtain ⟨_, _, _, _, _, _, _, _, _, rfl, _⟩ := h; rfl)) (fun cdv A outer s H vs Q E hr h => ⟨t_lmany K a.WD E, ?_, pure_lmany vs H Q E h⟩)
  exact (pss_cons (ps_if (pt_cmpR op_eq (pv 0) pe_int (nomark _)) (pss_one (ps_ret (pe_op op_add (pv 1) pe_int))) pss_nil)
      (pss_cons (ps_if (pt_cmpR op_eq (pv 0) pe_int (nomark _)) (pss_one (ps_ret (pe_op op_fdivF (pe_op op_mulI (pe_op op_add (pv 1) pe_int) (pe_op op_add (pv 1) pe_int)) pe_int))) pss_nil)
      (pss_one (ps_ret (pe_op op_fdivF (pe_op op_mulI (pe_op op_mulI (pe_op op_add (pv 1) pe_int) (pe_op op_add (pv 1) pe_int)) (pe_op op_add (pv 1) pe_int)) pe_int)))))
theorem ok_listed (T : Txt K mg a) : FnOk P w K mg base CX0 2 a.f_listed a.d_listed ["told", "dimension", "low", "high", "many"] spListed := by
  have G_integer := ok_integer (P := P) (w := w) (base := base) T
  have G_lbefore := ok_lbefore (P := P) (w := w) (base := base) T
  refine T.F_listed.ok sc_listed (fun vs H Q E h => by first | (obtain ⟨_, rfl, _⟩ := h; rfl) | (obtain ⟨_, _, rfl, _⟩ := h; rfl) | (obtain ⟨_, _, _, rfl, _⟩ := h; rfl) | (obtain ⟨_, _, _, _, rfl, _⟩ := h; rfl) | (obtain ⟨_, _, _, _, _, rfl, _⟩ := h; rfl) | (obtain ⟨_, _, _, _, _, _, rfl, _⟩ := h; rfl) | (obtain ⟨_, _, _, _, _, _, _, rfl, _⟩ := h; rfl) | (obtain ⟨_, _, _, _, _, _, _, _, rfl, _⟩ := h; rfl) | (obtain ⟨_, _, _, _, _, _, _, _, _, rfl, _⟩ := h; rfl)) (fun cdv A outer s H vs Q E hr h => ⟨t_listed K a.WD E, ?_, pure_listed vs H Q E h⟩)
  exact (pss_cons (ps_if (PW.pt (pw_or (pt_not (pt_val (pe_callB call_isB (by rfl) T.n_isinstance (by decide +kernel) (pa_cons (pv 0) (pa_cons (pe_bltn (by rfl) T.n_list (by decide +kernel) rfl) pa_nil))))) (pw_or1 (pt_cmpR op_ne (pe_callB call_lenA (by rfl) T.n_len boot_len (pa_cons (pv 0) pa_nil)) (pv 4) (nomark _))))) (pss_one (ps_ret pe_bl)) pss_nil)
      (pss_cons (ps_set (i := 5) sc_listed.nd rfl (.inl rfl) pe_non)
      (pss_cons (ps_for PassesOwn.never rfl (pi_list (pv 0)) (pg_name (i := 6) sc_listed.nd rfl (.inl rfl)) (pss_cons (ps_if (PW.pt (pw_or (pt_not (pt_val (pe_callB call_isB (by rfl) T.n_isinstance (by decide +kernel) (pa_cons (pv 6) (pa_cons (pe_bltn (by rfl) T.n_tuple (by decide +kernel) rfl) pa_nil))))) (pw_or1 (pt_cmpR op_ne (pe_callB call_lenA (by rfl) T.n_len boot_len (pa_cons (pv 6) pa_nil)) (pv 1) (nomark _))))) (pss_one (ps_ret pe_bl)) pss_nil)
      (pss_cons (ps_for PassesOwn.never rfl (pi_tup (pv 6)) (pg_name (i := 7) sc_listed.nd rfl (.inl rfl)) (pss_one (ps_if (PW.pt (pw_or (pt_not (pt_val (pe_call G_integer (hr.mono (by decide)) rfl T.g_integer T.k_integer T.b_integer .nil pass0 (pa_cons (pv 7) pa_nil)))) (pw_or1 (pt_cmpR op_lt (pv 7) pe_int (nomark _))))) (pss_one (ps_ret pe_bl)) pss_nil)))
      (pss_cons (ps_if (PW.pt (pw_or (pt_cmpR op_lt (pe_callB (call_sumA rfl) (by rfl) T.n_sum (by decide +kernel) (pa_cons (pv 6) pa_nil)) (pv 2) (nomark _)) (pw_or1 (pt_cmpR op_gt (pe_callB (call_sumA rfl) (by rfl) T.n_sum (by decide +kernel) (pa_cons (pv 6) pa_nil)) (pv 3) (nomark _))))) (pss_one (ps_ret pe_bl)) pss_nil)
      (pss_cons (ps_if (PW.pt (pw_and (pt_cmp (pc_notN (pv 5))) (pw_and1 (pt_not (pt_val (pe_call G_lbefore (hr.mono (by decide)) rfl T.g_lbefore T.k_lbefore T.b_lbefore .nil pass0 (pa_cons (pv 5) (pa_cons (pv 6) pa_nil)))))))) (pss_one (ps_ret pe_bl)) pss_nil)
      (pss_one (ps_set (i := 5) sc_listed.nd rfl (.inl rfl) (pv 6))))))))
      (pss_one (ps_ret pe_bl)))))
theorem ok_says (T : Txt K mg a) : FnOk P w K mg base CX0 1 a.f_says a.d_says ["told", "due"] spSays := by
  refine T.F_says.ok sc_says (fun vs H Q E h => by first | (obtain ⟨_, rfl, _⟩ := h; rfl) | (obtain ⟨_, _, rfl, _⟩ := h; rfl) | (obtain ⟨_, _, _, rfl, _⟩ := h; rfl) | (obtain ⟨_, _, _, _, rfl, _⟩ := h; rfl) | (obtain ⟨_, _, _, _, _, rfl, _⟩ := h; rfl) | (obtain ⟨_, _, _, _, _, _, rfl, _⟩ := h; rfl) | (obtain ⟨_, _, _, _, _, _, _, rfl, _⟩ := h; rfl) | (obtain ⟨_, _, _, _, _, _, _, _, rfl, _⟩ := h; rfl) | (obtain ⟨_, _, _, _, _, _, _, _, _, rfl, _⟩ := h; rfl)) (fun cdv A outer s H vs Q E hr h => ⟨t_says K a.WD E, ?_, pure_says vs H Q E h⟩)
  exact (pss_one (ps_ret (pe_and (pe_callB call_isB (by rfl) T.n_isinstance (by decide +kernel) (pa_cons (pv 0) (pa_cons (pe_bltn (by rfl) T.n_bool (by decide +kernel) rfl) pa_nil))) (pe_one (pe_cmpR op_eq (pv 0) (pv 1) (nomark _))))))
theorem ok_relations (T : Txt K mg a) : FnOk P w K mg base CX0 4 a.f_relations a.d_relations ["first", "second"] spRelations := by
  have G_before := ok_before (P := P) (w := w) (base := base) T
  have G_divides := ok_divides (P := P) (w := w) (base := base) T
  have G_integer := ok_integer (P := P) (w := w) (base := base) T
  have G_lbefore := ok_lbefore (P := P) (w := w) (base := base) T
  have G_lfac := ok_lfac (P := P) (w := w) (base := base) T
  have G_lwithin := ok_lwithin (P := P) (w := w) (base := base) T
  have G_mfac := ok_mfac (P := P) (w := w) (base := base) T
  have G_says := ok_says (P := P) (w := w) (base := base) T
  refine T.F_relations.ok sc_relations (fun vs H Q E h => by first | (obtain ⟨_, rfl, _⟩ := h; rfl) | (obtain ⟨_, _, rfl, _⟩ := h; rfl) | (obtain ⟨_, _, _, rfl, _⟩ := h; rfl) | (obtain ⟨_, _, _, _, rfl, _⟩ := h; rfl) | (obtain ⟨_, _, _, _, _, rfl, _⟩ := h; rfl) | (obtain ⟨_, _, _, _, _, _, rfl, _⟩ := h; rfl) | (obtain ⟨_, _, _, _, _, _, _, rfl, _⟩ := h; rfl) | (obtain ⟨_, _, _, _, _, _, _, _, rfl, _⟩ := h; rfl) | (obtain ⟨_, _, _, _, _, _, _, _, _, rfl, _⟩ := h; rfl)) (fun cdv A outer s H vs Q E hr h => ⟨t_relations K a.WD E, ?_, pure_relations vs H Q E h⟩)
  exact (pss_cons (ps_for PassesOwn.never rfl (pi_list (pe_lst (pa_cons (pe_tup (pa_cons (pv 0) (pa_cons (pv 1) pa_nil))) (pa_cons (pe_tup (pa_cons (pv 1) (pa_cons (pv 0) pa_nil))) (pa_cons (pe_tup (pa_cons (pv 0) (pa_cons (pv 0) pa_nil))) (pa_cons (pe_tup (pa_cons (pv 1) (pa_cons (pv 1) pa_nil))) pa_nil)))))) (pg_name (i := 2) sc_relations.nd rfl (.inl rfl)) (pss_cons (ps_if (pt_not (pt_val (pe_call G_says (hr.mono (by decide)) rfl T.g_says T.k_says T.b_says .nil pass0 (pa_cons (pe_call G_before (hr.mono (by decide)) rfl T.g_before T.k_before T.b_before .nil passL (pa_cons (pe_ix ix_1 (pv 2) pe_int (fun _ _ => rfl)) (pa_cons (pe_ix ix_1 (pv 2) pe_int (fun _ _ => rfl)) pa_nil))) (pa_cons (pe_call G_lbefore (hr.mono (by decide)) rfl T.g_lbefore T.k_lbefore T.b_lbefore .nil pass0 (pa_cons (pe_ix ix_1 (pv 2) pe_int (fun _ _ => rfl)) (pa_cons (pe_ix ix_1 (pv 2) pe_int (fun _ _ => rfl)) pa_nil))) pa_nil))))) (pss_one (ps_ret pe_bl)) pss_nil)
      (pss_cons (ps_if (pt_not (pt_val (pe_call G_says (hr.mono (by decide)) rfl T.g_says T.k_says T.b_says .nil pass0 (pa_cons (pe_call G_divides (hr.mono (by decide)) rfl T.g_divides T.k_divides T.b_divides .nil passL (pa_cons (pe_ix ix_1 (pv 2) pe_int (fun _ _ => rfl)) (pa_cons (pe_ix ix_1 (pv 2) pe_int (fun _ _ => rfl)) pa_nil))) (pa_cons (pe_call G_lwithin (hr.mono (by decide)) rfl T.g_lwithin T.k_lwithin T.b_lwithin .nil pass0 (pa_cons (pe_ix ix_1 (pv 2) pe_int (fun _ _ => rfl)) (pa_cons (pe_ix ix_1 (pv 2) pe_int (fun _ _ => rfl)) pa_nil))) pa_nil))))) (pss_one (ps_ret pe_bl)) pss_nil)
      (pss_cons (ps_set (i := 3) sc_relations.nd rfl (.inl rfl) (pe_call G_mfac (hr.mono (by decide)) rfl T.g_mfac T.k_mfac T.b_mfac .nil passL (pa_cons (pe_ix ix_1 (pv 2) pe_int (fun _ _ => rfl)) pa_nil)))
      (pss_one (ps_if (PW.pt (pw_or (pt_not (pt_val (pe_call G_integer (hr.mono (by decide)) rfl T.g_integer T.k_integer T.b_integer .nil pass0 (pa_cons (pv 3) pa_nil)))) (pw_or1 (pt_cmpR op_ne (pv 3) (pe_call G_lfac (hr.mono (by decide)) rfl T.g_lfac T.k_lfac T.b_lfac .nil pass0 (pa_cons (pe_ix ix_1 (pv 2) pe_int (fun _ _ => rfl)) pa_nil)) (nomark _))))) (pss_one (ps_ret pe_bl)) pss_nil))))))
      (pss_one (ps_ret pe_bl)))
theorem ok_mod (T : Txt K mg a) : ∀ n : Nat, FnOk P w K mg base (L2.CX P w) (n + 1) a.f_mod a.d_mod ["dimension", "degree"] (spMod a.WD n)
  | 0 => by
    refine T.F_mod.okX sc_mod (fun vs H Q E h => ?_) (fun cdv A outer s H vs Q E hr h => ?_)
    · exact absurd h.1 (by decide)
    · exact absurd h.1 (by decide)
  | n + 1 => by
    have G_mod := ok_mod T n
    have G_chk := ok_chk (P := P) (w := w) (base := base) T
    refine T.F_mod.okX sc_mod (fun vs H Q E h => by obtain ⟨_, _, _, rfl, _⟩ := h; rfl) (fun cdv A outer s H vs Q E hr h => ⟨t_mod n K a.WD E, ?_, pure_mod vs H Q E h⟩)
    exact (pss_cons (ps_expr (pe_call G_chk (hr.mono (by omega)) rfl T.g_chk T.k_chk T.b_chk .nil (passes_call (takes_of rfl rfl rfl rfl) (fun _ _ _ _ h => h)) (pa_cons (pv 0) pa_nil)))
      (pss_cons (ps_if (pt_cmpR op_lt (pv 1) pe_int (nomark _)) (pss_one (ps_ret (pe_lst pa_nil))) pss_nil)
      (pss_cons (ps_if (pt_cmpR op_eq (pv 0) pe_int (nomark _)) (pss_one (ps_ret (pe_lst (pa_cons (pe_tup (pa_cons (pv 1) pa_nil)) pa_nil)))) pss_nil)
      (pss_one (ps_ret (pe_lc2 (own := [("first", 2), ("rest", 3)]) (vs1 := [3]) (g := (gName 2)) (g1 := (gName 3)) (tt := tYes) (tt1 := tYes) (by rfl) sc_mod.nd (pi_range3 rfl T.n_range (pa_cons (pv 1) (pa_cons (pe_un un_neg pe_int) (pa_cons (pe_un un_neg pe_int) pa_nil)))) (blkOk_by (own := [("first", 2), ("rest", 3)]) (N := ["dimension", "degree", "first", "rest"]) (sc := defScope s_mod) (by decide +kernel)) (by decide) (fun _ _ _ _ _ => (pg_name (i := 2) sc_mod.nd rfl (.inl rfl))) (fun _ _ _ _ _ => pts_nil) (fun _ _ _ _ _ => (pi_list (pe_call G_mod (hr.mono (by omega)) rfl T.g_mod T.k_mod T.b_mod .nil passL (pa_cons (pe_op op_sub (pv 0) pe_int) (pa_cons (pe_op op_sub (pv 1) (pv 2)) pa_nil))))) (fun _ _ _ _ _ => (pg_name (i := 3) sc_mod.nd rfl (.inl rfl))) (fun _ _ _ _ _ => pts_nil) (fun _ _ _ _ _ => (pe_tup (pa_cons (pv 2) (pa_star (pv 3) pa_nil))))))))))
theorem ok_up (T : Txt K mg a) : GFn P w K mg base 6 a.f_up a.d_up ["dimension", "degree"] (spUp a.WD) := by
  have G_chk := ok_chk (P := P) (w := w) (base := base) T
  have G_mod := ok_mod (P := P) (w := w) (base := base) T 3
  obtain ⟨oc, od, kV, doc, pm, an, cdv, ct, osl, e, lk, hcd⟩ := T.F_up.ex
  rw [e] at lk ⊢
  refine gfn_of lk hcd sc_up (fun vs H Q E h => by obtain ⟨_, _, rfl, _⟩ := h; rfl) fun A outer s H vs Q E pn hr h => ⟨t_up K a.WD E, ?_, pure_up vs H Q E h⟩
  exact gss_cons (gs_ps (ps_expr (pe_call G_chk (hr.mono (by decide)) rfl T.g_chk T.k_chk T.b_chk .nil (passes_call takes_gcx (fun _ _ _ _ h => h)) (pa_cons (pv 0) pa_nil))))
    (gss_cons (gs_for owns_gcx rfl (pi_range1 rfl T.n_range (pa_cons (pe_op op_add (pv 1) pe_int) pa_nil)) (pg_name (i := 2) sc_up.nd rfl (.inl rfl))
      (gss_cons (gs_yieldFrom (yf_lst (pe_call G_mod (hr.mono (by decide)) rfl T.g_mod T.k_mod T.b_mod .nil passL (pa_cons (pv 0) (pa_cons (pv 2) pa_nil)))) hr.hd) gss_nil)) gss_nil)
theorem ok_lists (T : Txt K mg a) : FnOk P w K mg base CX0 10 a.f_lists a.d_lists ["dimension", "high"] (spLists a.WD) := by
  have G_listed := ok_listed (P := P) (w := w) (base := base) T
  have G_lmany := ok_lmany (P := P) (w := w) (base := base) T
  have G_mod := ok_mod (P := P) (w := w) (base := base) T 3
  have G_up := ok_up (P := P) (w := w) (base := base) T
  refine T.F_lists.ok sc_lists (fun vs H Q E h => by first | (obtain ⟨_, rfl, _⟩ := h; rfl) | (obtain ⟨_, _, rfl, _⟩ := h; rfl) | (obtain ⟨_, _, _, rfl, _⟩ := h; rfl) | (obtain ⟨_, _, _, _, rfl, _⟩ := h; rfl) | (obtain ⟨_, _, _, _, _, rfl, _⟩ := h; rfl) | (obtain ⟨_, _, _, _, _, _, rfl, _⟩ := h; rfl) | (obtain ⟨_, _, _, _, _, _, _, rfl, _⟩ := h; rfl) | (obtain ⟨_, _, _, _, _, _, _, _, rfl, _⟩ := h; rfl) | (obtain ⟨_, _, _, _, _, _, _, _, _, rfl, _⟩ := h; rfl)) (fun cdv A outer s H vs Q E hr h => ⟨t_lists K a.WD E, ?_, pure_lists vs H Q E h⟩)
  exact (pss_cons (ps_if (pt_not (pt_val (pe_call G_listed (hr.mono (by decide)) rfl T.g_listed T.k_listed T.b_listed .nil pass0 (pa_cons (pe_listG (pgen_call G_up (hr.mono (by decide)) rfl T.g_up T.k_up T.b_up .nil (pa_cons (pv 0) (pa_cons (pv 1) pa_nil))) passL (fun _ _ _ h => h.elim) (hr.mono (by decide)) rfl T.n_list (by decide +kernel)) (pa_cons (pv 0) (pa_cons pe_int (pa_cons (pv 1) (pa_cons (pe_call G_lmany (hr.mono (by decide)) rfl T.g_lmany T.k_lmany T.b_lmany .nil pass0 (pa_cons (pv 0) (pa_cons (pv 1) pa_nil))) pa_nil)))))))) (pss_one (ps_ret pe_bl)) pss_nil)
      (pss_cons (ps_if (pt_cmpR op_lt (pv 1) pe_int (nomark _)) (pss_one (ps_ret pe_bl)) pss_nil)
      (pss_cons (ps_set (i := 2) sc_lists.nd rfl (.inl rfl) (pe_op op_sub (pe_call G_lmany (hr.mono (by decide)) rfl T.g_lmany T.k_lmany T.b_lmany .nil pass0 (pa_cons (pv 0) (pa_cons (pv 1) pa_nil))) (pe_call G_lmany (hr.mono (by decide)) rfl T.g_lmany T.k_lmany T.b_lmany .nil pass0 (pa_cons (pv 0) (pa_cons (pe_op op_sub (pv 1) pe_int) pa_nil)))))
      (pss_cons (ps_set (i := 3) sc_lists.nd rfl (.inl rfl) (pe_call G_mod (hr.mono (by decide)) rfl T.g_mod T.k_mod T.b_mod .nil passL (pa_cons (pv 0) (pa_cons (pv 1) pa_nil))))
      (pss_cons (ps_if (pt_not (pt_val (pe_call G_listed (hr.mono (by decide)) rfl T.g_listed T.k_listed T.b_listed .nil pass0 (pa_cons (pv 3) (pa_cons (pv 0) (pa_cons (pv 1) (pa_cons (pv 1) (pa_cons (pv 2) pa_nil)))))))) (pss_one (ps_ret pe_bl)) pss_nil)
      (pss_cons (ps_asg (pe_callTy call_tupA (by rfl) T.n_tuple (by decide +kernel) (pa_cons (pe_lc (own := [("exponent", 4)]) (g := (gName 4)) (tt := tYes) (by rfl) sc_lists.nd (pi_tup (pe_ix ix_1 (pv 3) pe_int (fun _ _ => rfl))) (blkOk_by (own := [("exponent", 4)]) (N := ["dimension", "high", "many", "told", "exponent"]) (sc := defScope s_lists) (by decide +kernel)) (fun _ _ _ _ _ => (pg_name (i := 4) sc_lists.nd rfl (.inl rfl))) (fun _ _ _ _ _ => pts_nil) (fun _ _ _ _ _ => (pe_op op_add (pv 4) pe_int))) pa_nil)) (pg_sub (pv 3) pe_int set_list))
      (pss_cons (ps_expr (pe_bm PySem.F.plainAttrs_list PySem.F.slot_list_append PySem.F.type_list_append mt_append (pv 3) (pa_cons (pe_ix ix_1 (pv 3) pe_int (fun _ _ => rfl)) pa_nil)))
      (pss_one (ps_ret (pe_call G_listed (hr.mono (by decide)) rfl T.g_listed T.k_listed T.b_listed .nil pass0 (pa_cons (pe_call G_mod (hr.mono (by decide)) rfl T.g_mod T.k_mod T.b_mod .nil passL (pa_cons (pv 0) (pa_cons (pv 1) pa_nil))) (pa_cons (pv 0) (pa_cons (pv 1) (pa_cons (pv 1) (pa_cons (pv 2) pa_nil)))))))))))))))
theorem ok_refused (T : Txt K mg a) : FnOk P w K mg base CX0 10 a.f_refused a.d_refused ["kind", "first", "second", "dimension", "high"] (spRefused a.WD) := by
  have G_before := ok_before (P := P) (w := w) (base := base) T
  have G_divides := ok_divides (P := P) (w := w) (base := base) T
  have G_mfac := ok_mfac (P := P) (w := w) (base := base) T
  have G_mod := ok_mod (P := P) (w := w) (base := base) T 3
  have G_up := ok_up (P := P) (w := w) (base := base) T
  refine T.F_refused.ok sc_refused (fun vs H Q E h => by first | (obtain ⟨_, rfl, _⟩ := h; rfl) | (obtain ⟨_, _, rfl, _⟩ := h; rfl) | (obtain ⟨_, _, _, rfl, _⟩ := h; rfl) | (obtain ⟨_, _, _, _, rfl, _⟩ := h; rfl) | (obtain ⟨_, _, _, _, _, rfl, _⟩ := h; rfl) | (obtain ⟨_, _, _, _, _, _, rfl, _⟩ := h; rfl) | (obtain ⟨_, _, _, _, _, _, _, rfl, _⟩ := h; rfl) | (obtain ⟨_, _, _, _, _, _, _, _, rfl, _⟩ := h; rfl) | (obtain ⟨_, _, _, _, _, _, _, _, _, rfl, _⟩ := h; rfl)) (fun cdv A outer s H vs Q E hr h => ⟨t_refused K a.WD a.BM a.BI a.SE, ?_, pure_refused T.exc vs H Q E h⟩)
  exact (pss_cons (ps_set (i := 5) sc_refused.nd rfl (.inl rfl) (pe_lst pa_nil))
      (pss_cons (ps_try_as (i := 6) (tb := t_tryb a.WD) (ts := t_caught K a.WD a.BM a.BI) (Wout := fun _ _ _ _ => False) rfl rfl sc_refused.nd rfl rfl ⟨rfl, by decide, Or.inl T.g_SpotError⟩ takes0
      (fun W pn xe tk _ => (pss_cons (ps_if (pt_cmpR op_eq (pv 0) pe_int (nomark _)) (pss_one (ps_expr (by exact (pe_callS G_before (hr.mono (by decide)) rfl T.g_before T.k_before T.b_before (fun σ => passAt tk σ) (pa_cons (pv 1) (pa_cons (pv 2) pa_nil)))))) pss_nil)
      (pss_cons (ps_if (pt_cmpR op_eq (pv 0) pe_int (nomark _)) (pss_one (ps_expr (by exact (pe_callS G_divides (hr.mono (by decide)) rfl T.g_divides T.k_divides T.b_divides (fun σ => passAt tk σ) (pa_cons (pv 1) (pa_cons (pv 2) pa_nil)))))) pss_nil)
      (pss_cons (ps_if (pt_cmpR op_eq (pv 0) pe_int (nomark _)) (pss_one (ps_expr (by exact (pe_callS G_mod (hr.mono (by decide)) rfl T.g_mod T.k_mod T.b_mod (fun σ => passAt tk σ) (pa_cons (pv 3) (pa_cons (pe_callB (call_max2 rfl) (by rfl) T.n_max (by decide +kernel) (pa_cons pe_int (pa_cons (pv 4) pa_nil))) pa_nil)))))) pss_nil)
      (pss_cons (ps_if (pt_cmpR op_eq (pv 0) pe_int (nomark _)) (pss_one (ps_expr (by exact (pe_listG (pgen_call G_up (hr.mono (by decide)) rfl T.g_up T.k_up T.b_up .nil (pa_cons (pv 3) (pa_cons (pv 4) pa_nil))) (passAll tk rfl) (noStop_all T.stop) (hr.mono (by decide)) rfl T.n_list (by decide +kernel))))) pss_nil)
      (pss_one (ps_if (pt_cmpR op_eq (pv 0) pe_int (nomark _)) (pss_one (ps_expr (by exact (pe_callS G_mfac (hr.mono (by decide)) rfl T.g_mfac T.k_mfac T.b_mfac (fun σ => passAt tk σ) (pa_cons (pv 1) pa_nil))))) pss_nil)))))))
      (fun a0 oe cls d pn hz hf => (pss_cons (ps_set (i := 7) sc_refused.nd rfl (.inl rfl) (by exact (pe_or (pe_callB (call_caught T.exc.cz hz hf) (by rfl) T.n_isinstance (by decide +kernel) (pa_cons (pv 6) (pa_cons (pe_glob rfl T.g_BadMonomial rfl) pa_nil))) (pe_one (pe_callB (call_caught T.exc.cz hz hf) (by rfl) T.n_isinstance (by decide +kernel) (pa_cons (pv 6) (pa_cons (pe_glob rfl T.g_BadIndex rfl) pa_nil)))))))
      (pss_one (ps_set (i := 5) sc_refused.nd rfl (.inl rfl) (by exact (pe_lst (pa_cons (pe_callB (call_caught T.exc.cz hz hf) (by rfl) T.n_isinstance (by decide +kernel) (pa_cons (pv 6) (pa_cons (pe_glob rfl T.gW rfl) pa_nil))) (pa_cons (pe_callB (call_caught T.exc.cz hz hf) (by rfl) T.n_isinstance (by decide +kernel) (pa_cons (pv 6) (pa_cons (pe_bltn (by rfl) T.n_ValueError (by decide +kernel) rfl) pa_nil))) (pa_cons (pv 7) pa_nil))))))))))
      (pss_one (ps_ret (pe_cmpR (op_eqD hr.units) (pv 5) (pe_lst (pa_cons pe_bl (pa_cons pe_bl (pa_cons pe_bl pa_nil)))) (nomark _))))))
theorem ok_idle (T : Txt K mg a) : FnOk P w K mg base CX0 9 a.f_idle a.d_idle ["dimension", "high"] spIdle := by
  have G_up := ok_up (P := P) (w := w) (base := base) T
  refine T.F_idle.ok sc_idle (fun vs H Q E h => by first | (obtain ⟨_, rfl, _⟩ := h; rfl) | (obtain ⟨_, _, rfl, _⟩ := h; rfl) | (obtain ⟨_, _, _, rfl, _⟩ := h; rfl) | (obtain ⟨_, _, _, _, rfl, _⟩ := h; rfl) | (obtain ⟨_, _, _, _, _, rfl, _⟩ := h; rfl) | (obtain ⟨_, _, _, _, _, _, rfl, _⟩ := h; rfl) | (obtain ⟨_, _, _, _, _, _, _, rfl, _⟩ := h; rfl) | (obtain ⟨_, _, _, _, _, _, _, _, rfl, _⟩ := h; rfl) | (obtain ⟨_, _, _, _, _, _, _, _, _, rfl, _⟩ := h; rfl)) (fun cdv A outer s H vs Q E hr h => ⟨t_idle K a.WD, ?_, pure_idle vs H Q E h⟩)
  exact (pss_cons (ps_set (i := 2) sc_idle.nd rfl (.inl rfl) pe_bl)
      (pss_cons (ps_try_as (i := 3) (tb := fun _ => t_idleb K a.WD) (ts := t_idlec K a.WD) (Wout := fun _ _ _ _ => False) rfl rfl sc_idle.nd rfl rfl ⟨rfl, by decide, Or.inl T.g_SpotError⟩ takes0
      (fun W pn xe tk _ => (pss_one (ps_set (i := 2) sc_idle.nd rfl (.inl rfl) (by exact (pe_cmpR (op_eqD hr.units) (pe_lc (own := [("pair", 4)]) (g := gName 4) (tt := tYes) (by rfl) sc_idle.nd (pi_zipG rfl T.n_zip (pe_lst pa_nil) G_up (hr.mono (by decide)) rfl T.g_up T.k_up T.b_up (pa_cons (pv 0) (pa_cons (pv 1) pa_nil))) (blkOk_by (own := [("pair", 4)]) (N := ["dimension", "high", "idle", "e", "pair"]) (sc := defScope s_idle) (by decide +kernel)) (fun _ _ _ _ _ => (pg_name (i := 4) sc_idle.nd rfl (.inl rfl))) (fun _ _ _ _ _ => pts_nil) (fun _ _ _ _ _ => (pv 4))) (pe_lst pa_nil) (nomark _))))))
      (fun a0 oe cls d pn hz hf => (pss_one (ps_set (i := 2) sc_idle.nd rfl (.inl rfl) (by exact (pe_not (pe_callB (call_caught T.exc.cz hz hf) (by rfl) T.n_isinstance (by decide +kernel) (pa_cons (pv 3) (pa_cons (pe_bltn (by rfl) T.n_ValueError (by decide +kernel) rfl) pa_nil)))))))))
      (pss_one (ps_ret (pv 2)))))
theorem ok_law (T : Txt K mg a) : FnOk P w K mg base CX0 11 a.f_law a.d_law ["script"] (spLaw K) := by
  have G_idle := ok_idle (P := P) (w := w) (base := base) T
  have G_lexp := ok_lexp (P := P) (w := w) (base := base) T
  have G_lists := ok_lists (P := P) (w := w) (base := base) T
  have G_lsecond := ok_lsecond (P := P) (w := w) (base := base) T
  have G_pool := ok_pool (P := P) (w := w) (base := base) T
  have G_refused := ok_refused (P := P) (w := w) (base := base) T
  have G_relations := ok_relations (P := P) (w := w) (base := base) T
  have G_take := ok_take (P := P) (w := w) (base := base) T
  refine T.F_law.ok sc_law (fun vs H Q E h => by first | (obtain ⟨_, rfl, _⟩ := h; rfl) | (obtain ⟨_, _, rfl, _⟩ := h; rfl) | (obtain ⟨_, _, _, rfl, _⟩ := h; rfl) | (obtain ⟨_, _, _, _, rfl, _⟩ := h; rfl) | (obtain ⟨_, _, _, _, _, rfl, _⟩ := h; rfl) | (obtain ⟨_, _, _, _, _, _, rfl, _⟩ := h; rfl) | (obtain ⟨_, _, _, _, _, _, _, rfl, _⟩ := h; rfl) | (obtain ⟨_, _, _, _, _, _, _, _, rfl, _⟩ := h; rfl) | (obtain ⟨_, _, _, _, _, _, _, _, _, rfl, _⟩ := h; rfl)) (fun cdv A outer s H vs Q E hr h => ⟨t_law K a.WD E, ?_, pure_law vs H Q E h⟩)
  exact (pss_cons (ps_set (i := 1) sc_law.nd rfl (.inl rfl) (pe_call G_pool (hr.mono (by decide)) rfl T.g_pool T.k_pool T.b_pool .nil pass0 (pa_cons (pv 0) pa_nil)))
      (pss_cons (ps_set (i := 2) sc_law.nd rfl (.inl rfl) (pe_op op_add pe_int (pe_call G_take (hr.mono (by decide)) rfl T.g_take T.k_take T.b_take .nil pass0 (pa_cons (pv 1) (pa_cons pe_int pa_nil)))))
      (pss_cons (ps_set (i := 3) sc_law.nd rfl (.inl rfl) (pe_op op_sub (pe_call G_take (hr.mono (by decide)) rfl T.g_take T.k_take T.b_take .nil pass0 (pa_cons (pv 1) (pa_cons pe_int pa_nil))) pe_int))
      (pss_cons (ps_if (pt_cmpR op_eq (pe_call G_take (hr.mono (by decide)) rfl T.g_take T.k_take T.b_take .nil pass0 (pa_cons (pv 1) (pa_cons pe_int pa_nil))) pe_int (nomark _)) (pss_one (ps_set (i := 3) sc_law.nd rfl (.inl rfl) (pe_op op_sub (pe_call G_take (hr.mono (by decide)) rfl T.g_take T.k_take T.b_take .nil pass0 (pa_cons (pv 1) (pa_cons pe_int pa_nil))) pe_int))) pss_nil)
      (pss_cons (ps_set (i := 4) sc_law.nd rfl (.inl rfl) (pe_call G_lexp (hr.mono (by decide)) rfl T.g_lexp T.k_lexp T.b_lexp .nil pass0 (pa_cons (pv 1) (pa_cons (pv 2) (pa_cons (pe_ix ix_1 (pe_lst (pa_cons pe_int (pa_cons pe_int (pa_cons pe_int pa_nil)))) (pe_call G_take (hr.mono (by decide)) rfl T.g_take T.k_take T.b_take .nil pass0 (pa_cons (pv 1) (pa_cons pe_int pa_nil))) (fun _ _ => rfl)) pa_nil)))))
      (pss_cons (ps_set (i := 5) sc_law.nd rfl (.inl rfl) (pe_call G_lsecond (hr.mono (by decide)) rfl T.g_lsecond T.k_lsecond T.b_lsecond .nil pass0 (pa_cons (pv 1) (pa_cons (pv 4) pa_nil))))
      (pss_cons (ps_if (PW.pt (pw_or (pt_cmpR op_eq (pv 2) pe_int (nomark _)) (pw_or1 (PW.pt (pw_and (pt_cmpR op_eq (pv 2) pe_int (nomark _)) (pw_and1 (pt_cmpR op_eq (pe_call G_take (hr.mono (by decide)) rfl T.g_take T.k_take T.b_take .nil pass0 (pa_cons (pv 1) (pa_cons pe_int pa_nil))) pe_int (nomark _)))))))) (pss_one (ps_set (i := 9) sc_law.nd rfl (.inl rfl) (pe_slice sl_tup (pv 5) (po_some pe_int) po_none))) (pss_one (ps_set (i := 9) sc_law.nd rfl (.inl rfl) (pe_op op_catT (pv 5) (pe_tup (pa_cons (pe_call G_take (hr.mono (by decide)) rfl T.g_take T.k_take T.b_take .nil pass0 (pa_cons (pv 1) (pa_cons pe_int pa_nil))) pa_nil))))))
      (pss_cons (ps_set (i := 6) sc_law.nd rfl (.inl rfl) (pe_ix ix_1 (pe_lst (pa_cons pe_int (pa_cons pe_int (pa_cons (pe_un un_neg pe_int) (pa_cons pe_int pa_nil))))) (pe_call G_take (hr.mono (by decide)) rfl T.g_take T.k_take T.b_take .nil pass0 (pa_cons (pv 1) (pa_cons pe_int pa_nil))) (fun _ _ => rfl)))
      (pss_cons (ps_if (PW.pt (pw_or (pt_not (pt_val (pe_call G_lists (hr.mono (by decide)) rfl T.g_lists T.k_lists T.b_lists .nil pass0 (pa_cons (pv 2) (pa_cons (pv 3) pa_nil))))) (pw_or1 (pt_not (pt_val (pe_call G_relations (hr.mono (by decide)) rfl T.g_relations T.k_relations T.b_relations .nil pass0 (pa_cons (pv 4) (pa_cons (pv 5) pa_nil)))))))) (pss_one (ps_ret pe_bl)) pss_nil)
      (pss_cons (ps_for PassesOwn.never rfl (pi_range1 rfl T.n_range (pa_cons pe_int pa_nil)) (pg_name (i := 7) sc_law.nd rfl (.inl rfl)) (pss_one (ps_if (PW.pt (pw_or (pt_not (pt_val (pe_call G_refused (hr.mono (by decide)) rfl T.g_refused T.k_refused T.b_refused .nil pass0 (pa_cons (pv 7) (pa_cons (pv 4) (pa_cons (pv 9) (pa_cons (pv 6) (pa_cons (pv 3) pa_nil)))))))) (pw_or1 (pt_not (pt_val (pe_call G_refused (hr.mono (by decide)) rfl T.g_refused T.k_refused T.b_refused .nil pass0 (pa_cons (pv 7) (pa_cons (pv 9) (pa_cons (pv 4) (pa_cons (pv 6) (pa_cons (pv 3) pa_nil))))))))))) (pss_one (ps_ret pe_bl)) pss_nil)))
      (pss_cons (ps_if (pt_not (pt_val (pe_call G_idle (hr.mono (by decide)) rfl T.g_idle T.k_idle T.b_idle .nil pass0 (pa_cons (pv 6) (pa_cons (pv 3) pa_nil))))) (pss_one (ps_ret pe_bl)) pss_nil)
      (pss_cons (ps_for PassesOwn.never rfl (pi_list (pe_lst (pa_cons (pe_tup pa_nil) (pa_cons (pe_tup (pa_cons pe_int (pa_cons pe_int (pa_cons pe_int (pa_cons pe_int pa_nil))))) pa_nil)))) (pg_name (i := 8) sc_law.nd rfl (.inl rfl)) (pss_one (ps_for PassesOwn.never rfl (pi_list (pe_lst (pa_cons pe_int (pa_cons pe_int (pa_cons pe_int pa_nil))))) (pg_name (i := 7) sc_law.nd rfl (.inl rfl)) (pss_one (ps_if (pt_not (pt_val (pe_call G_refused (hr.mono (by decide)) rfl T.g_refused T.k_refused T.b_refused .nil pass0 (pa_cons (pv 7) (pa_cons (pv 8) (pa_cons (pv 8) (pa_cons (pv 6) (pa_cons (pv 3) pa_nil)))))))) (pss_one (ps_ret pe_bl)) pss_nil)))))
      (pss_one (ps_ret (pe_and (pe_call G_lists (hr.mono (by decide)) rfl T.g_lists T.k_lists T.b_lists .nil pass0 (pa_cons (pv 2) (pa_cons (pv 3) pa_nil))) (pe_one (pe_call G_relations (hr.mono (by decide)) rfl T.g_relations T.k_relations T.b_relations .nil pass0 (pa_cons (pv 4) (pa_cons (pv 5) pa_nil)))))))))))))))))))
end
end SpX

set_option Elab.async false
set_option linter.all false
set_option maxRecDepth 100000
set_option maxHeartbeats 4000000
namespace SpX
open PySem PySem.Spec L2
theorem kit_ref {K : PySem.W.Frag} {t : Value} {c : Addr} {b : Bool} (ne : t ≠ .ref c) (hd : PySem.W.hasDictIn K c = true) (ht : PySem.W.typeIn K (.ref c) = some (.type "type")) (hs : PySem.W.subIn K t (.ref c) = some b) : PySem.W.kitOne K t (.ref c) = some b := by
  obtain ⟨cd, hc, _⟩ := PySem.W.any_some hd
  have e1 : (t == Value.ref c) = false := Bool.eq_false_iff.mpr fun q => ne (beq_iff_eq.mp q)
  have e2 : ((PySem.W.clsIn K c).isSome && PySem.W.typeIn K (.ref c) == some (.type "type")) = true := by rw [hc, ht] <;> rfl
  unfold PySem.W.kitOne PySem.W.kitCls
  rw [e1, if_neg (by decide)]
  show (if ((PySem.W.clsIn K c).isSome && PySem.W.typeIn K (.ref c) == some (.type "type")) = true then PySem.W.subIn K t (.ref c) else none) = some b
  rw [if_pos e2]
  exact hs
theorem kit_tyr {K : PySem.W.Frag} {c : Addr} {T : String} {b : Bool} (hm : PySem.W.kitMeta T = true) (hs : PySem.W.subIn K (.ref c) (.type T) = some b) : PySem.W.kitOne K (.ref c) (.type T) = some b := by
  have e1 : (Value.ref c == Value.type T) = false := Bool.eq_false_iff.mpr fun q => by cases beq_iff_eq.mp q
  unfold PySem.W.kitOne PySem.W.kitCls
  rw [e1, if_neg (by decide)]
  show (if PySem.W.kitMeta T = true then PySem.W.subIn K (.ref c) (.type T) else none) = some b
  rw [if_pos hm]
  exact hs
theorem kit_other {K : PySem.W.Frag} {z c : Addr} (hz : PySem.W.subIn K (.ref z) (.ref z) = some true) (hs : PySem.W.subIn K (.ref z) (.ref c) = some false) (hd : PySem.W.hasDictIn K c = true) (ht : PySem.W.typeIn K (.ref c) = some (.type "type")) : PySem.W.kitOne K (.ref z) (.ref c) = some false :=
  kit_ref (fun e => by
    cases e
    rw [hz] at hs
    cases hs) hd ht hs
theorem all_mk {P : Program} {w : World} {K : PySem.W.Frag} {h : Heap} {mg : Str → Option Value} {fa Z BM BI SE : Addr} {tkD : Tok}
    {f_pool : Addr} {od_pool an_pool : Option Addr} {sl_pool : Array (Option Value)} {oc_pool kV_pool dc_pool pm_pool cd_pool ct_pool : Value}
    {f_take : Addr} {od_take an_take : Option Addr} {sl_take : Array (Option Value)} {oc_take kV_take dc_take pm_take cd_take ct_take : Value}
    {f_integer : Addr} {od_integer an_integer : Option Addr} {sl_integer : Array (Option Value)} {oc_integer kV_integer dc_integer pm_integer cd_integer ct_integer : Value}
    {f_chk : Addr} {od_chk an_chk : Option Addr} {sl_chk : Array (Option Value)} {oc_chk kV_chk dc_chk pm_chk cd_chk ct_chk : Value}
    {f_chke : Addr} {od_chke an_chke : Option Addr} {sl_chke : Array (Option Value)} {oc_chke kV_chke dc_chke pm_chke cd_chke ct_chke : Value}
    {f_place : Addr} {od_place an_place : Option Addr} {sl_place : Array (Option Value)} {oc_place kV_place dc_place pm_place cd_place ct_place : Value}
    {f_pair : Addr} {od_pair an_pair : Option Addr} {sl_pair : Array (Option Value)} {oc_pair kV_pair dc_pair pm_pair cd_pair ct_pair : Value}
    {f_before : Addr} {od_before an_before : Option Addr} {sl_before : Array (Option Value)} {oc_before kV_before dc_before pm_before cd_before ct_before : Value}
    {f_divides : Addr} {od_divides an_divides : Option Addr} {sl_divides : Array (Option Value)} {oc_divides kV_divides dc_divides pm_divides cd_divides ct_divides : Value}
    {f_mfac : Addr} {od_mfac an_mfac : Option Addr} {sl_mfac : Array (Option Value)} {oc_mfac kV_mfac dc_mfac pm_mfac cd_mfac ct_mfac : Value}
    {f_lexp : Addr} {od_lexp an_lexp : Option Addr} {sl_lexp : Array (Option Value)} {oc_lexp kV_lexp dc_lexp pm_lexp cd_lexp ct_lexp : Value}
    {f_lodeg : Addr} {od_lodeg an_lodeg : Option Addr} {sl_lodeg : Array (Option Value)} {oc_lodeg kV_lodeg dc_lodeg pm_lodeg cd_lodeg ct_lodeg : Value}
    {f_lsecond : Addr} {od_lsecond an_lsecond : Option Addr} {sl_lsecond : Array (Option Value)} {oc_lsecond kV_lsecond dc_lsecond pm_lsecond cd_lsecond ct_lsecond : Value}
    {f_lbefore : Addr} {od_lbefore an_lbefore : Option Addr} {sl_lbefore : Array (Option Value)} {oc_lbefore kV_lbefore dc_lbefore pm_lbefore cd_lbefore ct_lbefore : Value}
    {f_lwithin : Addr} {od_lwithin an_lwithin : Option Addr} {sl_lwithin : Array (Option Value)} {oc_lwithin kV_lwithin dc_lwithin pm_lwithin cd_lwithin ct_lwithin : Value}
    {f_lfac : Addr} {od_lfac an_lfac : Option Addr} {sl_lfac : Array (Option Value)} {oc_lfac kV_lfac dc_lfac pm_lfac cd_lfac ct_lfac : Value}
    {f_lmany : Addr} {od_lmany an_lmany : Option Addr} {sl_lmany : Array (Option Value)} {oc_lmany kV_lmany dc_lmany pm_lmany cd_lmany ct_lmany : Value}
    {f_listed : Addr} {od_listed an_listed : Option Addr} {sl_listed : Array (Option Value)} {oc_listed kV_listed dc_listed pm_listed cd_listed ct_listed : Value}
    {f_says : Addr} {od_says an_says : Option Addr} {sl_says : Array (Option Value)} {oc_says kV_says dc_says pm_says cd_says ct_says : Value}
    {f_relations : Addr} {od_relations an_relations : Option Addr} {sl_relations : Array (Option Value)} {oc_relations kV_relations dc_relations pm_relations cd_relations ct_relations : Value}
    {f_mod : Addr} {od_mod an_mod : Option Addr} {sl_mod : Array (Option Value)} {oc_mod kV_mod dc_mod pm_mod cd_mod ct_mod : Value}
    {f_up : Addr} {od_up an_up : Option Addr} {sl_up : Array (Option Value)} {oc_up kV_up dc_up pm_up cd_up ct_up : Value}
    {f_lists : Addr} {od_lists an_lists : Option Addr} {sl_lists : Array (Option Value)} {oc_lists kV_lists dc_lists pm_lists cd_lists ct_lists : Value}
    {f_refused : Addr} {od_refused an_refused : Option Addr} {sl_refused : Array (Option Value)} {oc_refused kV_refused dc_refused pm_refused cd_refused ct_refused : Value}
    {f_idle : Addr} {od_idle an_idle : Option Addr} {sl_idle : Array (Option Value)} {oc_idle kV_idle dc_idle pm_idle cd_idle ct_idle : Value}
    {f_law : Addr} {od_law an_law : Option Addr} {sl_law : Array (Option Value)} {oc_law kV_law dc_law pm_law cd_law ct_law : Value}
    (X : K.In h) (G : h.Ns mainGlobals mg) (hfa : mg "law" = some (.ref fa))
    (gZ : PySem.W.nsIn K mainGlobals "WrongDimension" = some (some (.ref Z)))
    (gBM : PySem.W.nsIn K mainGlobals "BadMonomial" = some (some (.ref BM)))
    (gBI : PySem.W.nsIn K mainGlobals "BadIndex" = some (some (.ref BI)))
    (gSE : PySem.W.nsIn K mainGlobals "SpotError" = some (some (.ref SE)))
    (n_len : PySem.W.nsIn K mainGlobals "len" = some none)
    (n_abs : PySem.W.nsIn K mainGlobals "abs" = some none)
    (n_int : PySem.W.nsIn K mainGlobals "int" = some none)
    (n_list : PySem.W.nsIn K mainGlobals "list" = some none)
    (n_tuple : PySem.W.nsIn K mainGlobals "tuple" = some none)
    (n_bool : PySem.W.nsIn K mainGlobals "bool" = some none)
    (n_sum : PySem.W.nsIn K mainGlobals "sum" = some none)
    (n_max : PySem.W.nsIn K mainGlobals "max" = some none)
    (n_all : PySem.W.nsIn K mainGlobals "all" = some none)
    (n_zip : PySem.W.nsIn K mainGlobals "zip" = some none)
    (n_isinstance : PySem.W.nsIn K mainGlobals "isinstance" = some none)
    (n_range : PySem.W.nsIn K mainGlobals "range" = some none)
    (n_ValueError : PySem.W.nsIn K mainGlobals "ValueError" = some none)
    (gfac : PySem.W.nsIn K mainGlobals "factorial" = some (some (.builtin "math.factorial")))
    (gdim : PySem.W.nsIn K mainGlobals "DIMENSIONS" = some (some (.int 3 tkD)))
    (cn : PySem.W.specialIn K (.builtin "object.__class__") "__get__" = some (some (.builtin "getset_descriptor.__get__")))
    (ct : PySem.W.takesIn K (.builtin "object.__class__") = some true)
    (xZ : PySem.W.excIn K Z [.type "ValueError", .type "Exception", .type "BaseException", .type "object"] "ValueError.__new__" = true)
    (kZ : PySem.W.keepIn K (.ref Z) = true)
    (bZ : PySem.W.subIn K (.ref Z) (.type "BaseException") = some true)
    (pZ : PySem.W.subIn K (.ref Z) (.type "StopIteration") = some false)
    (tZ : PySem.W.typeIn K (.ref Z) = some (.type "type"))
    (zg : PySem.W.findIn K (.ref Z) "__getattribute__" = some (some (.builtin "BaseException.__getattribute__")))
    (zk : PySem.W.findIn K (.ref Z) "__getattr__" = some none)
    (zd : PySem.W.hasDictIn K Z = true)
    (za : PySem.W.findIn K (.ref Z) "__class__" = some (some (.builtin "object.__class__")))
    (zm : PySem.W.mroIn K Z (.type "object") = some true)
    (bS : PySem.W.subIn K (.ref SE) (.type "BaseException") = some true)
    (dS : PySem.W.hasDictIn K SE = true)
    (tS : PySem.W.typeIn K (.ref SE) = some (.type "type"))
    (sS : PySem.W.subIn K (.ref Z) (.ref SE) = some true)
    (sve : PySem.W.subIn K (.ref Z) (.type "ValueError") = some true)
    (szz : PySem.W.subIn K (.ref Z) (.ref Z) = some true)
    (sBM : PySem.W.subIn K (.ref Z) (.ref BM) = some false)
    (dBM : PySem.W.hasDictIn K BM = true)
    (tBM : PySem.W.typeIn K (.ref BM) = some (.type "type"))
    (sBI : PySem.W.subIn K (.ref Z) (.ref BI) = some false)
    (dBI : PySem.W.hasDictIn K BI = true)
    (tBI : PySem.W.typeIn K (.ref BI) = some (.type "type"))
    (a_pool : PySem.W.nsIn K mainGlobals "_law_pool" = some (some (.ref f_pool)))
    (l_pool : K.lookup f_pool = some ⟨oc_pool, od_pool, .func (PySem.W.fnOf "_law_pool" "_law_pool" (defArgs s_pool) (defBody s_pool) (defScope s_pool) .none kV_pool dc_pool pm_pool an_pool cd_pool ct_pool), sl_pool⟩)
    (c_pool : PySem.W.codeIn K cd_pool "_law_pool" = true)
    (k_pool : PySem.W.keepIn K (.ref f_pool) = true)
    (a_take : PySem.W.nsIn K mainGlobals "_law_take" = some (some (.ref f_take)))
    (l_take : K.lookup f_take = some ⟨oc_take, od_take, .func (PySem.W.fnOf "_law_take" "_law_take" (defArgs s_take) (defBody s_take) (defScope s_take) .none kV_take dc_take pm_take an_take cd_take ct_take), sl_take⟩)
    (c_take : PySem.W.codeIn K cd_take "_law_take" = true)
    (k_take : PySem.W.keepIn K (.ref f_take) = true)
    (a_integer : PySem.W.nsIn K mainGlobals "_law_integer" = some (some (.ref f_integer)))
    (l_integer : K.lookup f_integer = some ⟨oc_integer, od_integer, .func (PySem.W.fnOf "_law_integer" "_law_integer" (defArgs s_integer) (defBody s_integer) (defScope s_integer) .none kV_integer dc_integer pm_integer an_integer cd_integer ct_integer), sl_integer⟩)
    (c_integer : PySem.W.codeIn K cd_integer "_law_integer" = true)
    (k_integer : PySem.W.keepIn K (.ref f_integer) = true)
    (a_chk : PySem.W.nsIn K mainGlobals "check_dimension" = some (some (.ref f_chk)))
    (l_chk : K.lookup f_chk = some ⟨oc_chk, od_chk, .func (PySem.W.fnOf "check_dimension" "check_dimension" (defArgs s_chk) (defBody s_chk) (defScope s_chk) .none kV_chk dc_chk pm_chk an_chk cd_chk ct_chk), sl_chk⟩)
    (c_chk : PySem.W.codeIn K cd_chk "check_dimension" = true)
    (k_chk : PySem.W.keepIn K (.ref f_chk) = true)
    (a_chke : PySem.W.nsIn K mainGlobals "check_entries" = some (some (.ref f_chke)))
    (l_chke : K.lookup f_chke = some ⟨oc_chke, od_chke, .func (PySem.W.fnOf "check_entries" "check_entries" (defArgs s_chke) (defBody s_chke) (defScope s_chke) .none kV_chke dc_chke pm_chke an_chke cd_chke ct_chke), sl_chke⟩)
    (c_chke : PySem.W.codeIn K cd_chke "check_entries" = true)
    (k_chke : PySem.W.keepIn K (.ref f_chke) = true)
    (a_place : PySem.W.nsIn K mainGlobals "standard_place" = some (some (.ref f_place)))
    (l_place : K.lookup f_place = some ⟨oc_place, od_place, .func (PySem.W.fnOf "standard_place" "standard_place" (defArgs s_place) (defBody s_place) (defScope s_place) .none kV_place dc_place pm_place an_place cd_place ct_place), sl_place⟩)
    (c_place : PySem.W.codeIn K cd_place "standard_place" = true)
    (k_place : PySem.W.keepIn K (.ref f_place) = true)
    (a_pair : PySem.W.nsIn K mainGlobals "_check_pair" = some (some (.ref f_pair)))
    (l_pair : K.lookup f_pair = some ⟨oc_pair, od_pair, .func (PySem.W.fnOf "_check_pair" "_check_pair" (defArgs s_pair) (defBody s_pair) (defScope s_pair) .none kV_pair dc_pair pm_pair an_pair cd_pair ct_pair), sl_pair⟩)
    (c_pair : PySem.W.codeIn K cd_pair "_check_pair" = true)
    (k_pair : PySem.W.keepIn K (.ref f_pair) = true)
    (a_before : PySem.W.nsIn K mainGlobals "comes_before" = some (some (.ref f_before)))
    (l_before : K.lookup f_before = some ⟨oc_before, od_before, .func (PySem.W.fnOf "comes_before" "comes_before" (defArgs s_before) (defBody s_before) (defScope s_before) .none kV_before dc_before pm_before an_before cd_before ct_before), sl_before⟩)
    (c_before : PySem.W.codeIn K cd_before "comes_before" = true)
    (k_before : PySem.W.keepIn K (.ref f_before) = true)
    (a_divides : PySem.W.nsIn K mainGlobals "divides" = some (some (.ref f_divides)))
    (l_divides : K.lookup f_divides = some ⟨oc_divides, od_divides, .func (PySem.W.fnOf "divides" "divides" (defArgs s_divides) (defBody s_divides) (defScope s_divides) .none kV_divides dc_divides pm_divides an_divides cd_divides ct_divides), sl_divides⟩)
    (c_divides : PySem.W.codeIn K cd_divides "divides" = true)
    (k_divides : PySem.W.keepIn K (.ref f_divides) = true)
    (a_mfac : PySem.W.nsIn K mainGlobals "monomial_factorial" = some (some (.ref f_mfac)))
    (l_mfac : K.lookup f_mfac = some ⟨oc_mfac, od_mfac, .func (PySem.W.fnOf "monomial_factorial" "monomial_factorial" (defArgs s_mfac) (defBody s_mfac) (defScope s_mfac) .none kV_mfac dc_mfac pm_mfac an_mfac cd_mfac ct_mfac), sl_mfac⟩)
    (c_mfac : PySem.W.codeIn K cd_mfac "monomial_factorial" = true)
    (k_mfac : PySem.W.keepIn K (.ref f_mfac) = true)
    (a_lexp : PySem.W.nsIn K mainGlobals "_law_exponents" = some (some (.ref f_lexp)))
    (l_lexp : K.lookup f_lexp = some ⟨oc_lexp, od_lexp, .func (PySem.W.fnOf "_law_exponents" "_law_exponents" (defArgs s_lexp) (defBody s_lexp) (defScope s_lexp) .none kV_lexp dc_lexp pm_lexp an_lexp cd_lexp ct_lexp), sl_lexp⟩)
    (c_lexp : PySem.W.codeIn K cd_lexp "_law_exponents" = true)
    (k_lexp : PySem.W.keepIn K (.ref f_lexp) = true)
    (a_lodeg : PySem.W.nsIn K mainGlobals "_law_of_degree" = some (some (.ref f_lodeg)))
    (l_lodeg : K.lookup f_lodeg = some ⟨oc_lodeg, od_lodeg, .func (PySem.W.fnOf "_law_of_degree" "_law_of_degree" (defArgs s_lodeg) (defBody s_lodeg) (defScope s_lodeg) .none kV_lodeg dc_lodeg pm_lodeg an_lodeg cd_lodeg ct_lodeg), sl_lodeg⟩)
    (c_lodeg : PySem.W.codeIn K cd_lodeg "_law_of_degree" = true)
    (k_lodeg : PySem.W.keepIn K (.ref f_lodeg) = true)
    (a_lsecond : PySem.W.nsIn K mainGlobals "_law_second" = some (some (.ref f_lsecond)))
    (l_lsecond : K.lookup f_lsecond = some ⟨oc_lsecond, od_lsecond, .func (PySem.W.fnOf "_law_second" "_law_second" (defArgs s_lsecond) (defBody s_lsecond) (defScope s_lsecond) .none kV_lsecond dc_lsecond pm_lsecond an_lsecond cd_lsecond ct_lsecond), sl_lsecond⟩)
    (c_lsecond : PySem.W.codeIn K cd_lsecond "_law_second" = true)
    (k_lsecond : PySem.W.keepIn K (.ref f_lsecond) = true)
    (a_lbefore : PySem.W.nsIn K mainGlobals "_law_before" = some (some (.ref f_lbefore)))
    (l_lbefore : K.lookup f_lbefore = some ⟨oc_lbefore, od_lbefore, .func (PySem.W.fnOf "_law_before" "_law_before" (defArgs s_lbefore) (defBody s_lbefore) (defScope s_lbefore) .none kV_lbefore dc_lbefore pm_lbefore an_lbefore cd_lbefore ct_lbefore), sl_lbefore⟩)
    (c_lbefore : PySem.W.codeIn K cd_lbefore "_law_before" = true)
    (k_lbefore : PySem.W.keepIn K (.ref f_lbefore) = true)
    (a_lwithin : PySem.W.nsIn K mainGlobals "_law_within" = some (some (.ref f_lwithin)))
    (l_lwithin : K.lookup f_lwithin = some ⟨oc_lwithin, od_lwithin, .func (PySem.W.fnOf "_law_within" "_law_within" (defArgs s_lwithin) (defBody s_lwithin) (defScope s_lwithin) .none kV_lwithin dc_lwithin pm_lwithin an_lwithin cd_lwithin ct_lwithin), sl_lwithin⟩)
    (c_lwithin : PySem.W.codeIn K cd_lwithin "_law_within" = true)
    (k_lwithin : PySem.W.keepIn K (.ref f_lwithin) = true)
    (a_lfac : PySem.W.nsIn K mainGlobals "_law_factors" = some (some (.ref f_lfac)))
    (l_lfac : K.lookup f_lfac = some ⟨oc_lfac, od_lfac, .func (PySem.W.fnOf "_law_factors" "_law_factors" (defArgs s_lfac) (defBody s_lfac) (defScope s_lfac) .none kV_lfac dc_lfac pm_lfac an_lfac cd_lfac ct_lfac), sl_lfac⟩)
    (c_lfac : PySem.W.codeIn K cd_lfac "_law_factors" = true)
    (k_lfac : PySem.W.keepIn K (.ref f_lfac) = true)
    (a_lmany : PySem.W.nsIn K mainGlobals "_law_many" = some (some (.ref f_lmany)))
    (l_lmany : K.lookup f_lmany = some ⟨oc_lmany, od_lmany, .func (PySem.W.fnOf "_law_many" "_law_many" (defArgs s_lmany) (defBody s_lmany) (defScope s_lmany) .none kV_lmany dc_lmany pm_lmany an_lmany cd_lmany ct_lmany), sl_lmany⟩)
    (c_lmany : PySem.W.codeIn K cd_lmany "_law_many" = true)
    (k_lmany : PySem.W.keepIn K (.ref f_lmany) = true)
    (a_listed : PySem.W.nsIn K mainGlobals "_law_listed" = some (some (.ref f_listed)))
    (l_listed : K.lookup f_listed = some ⟨oc_listed, od_listed, .func (PySem.W.fnOf "_law_listed" "_law_listed" (defArgs s_listed) (defBody s_listed) (defScope s_listed) .none kV_listed dc_listed pm_listed an_listed cd_listed ct_listed), sl_listed⟩)
    (c_listed : PySem.W.codeIn K cd_listed "_law_listed" = true)
    (k_listed : PySem.W.keepIn K (.ref f_listed) = true)
    (a_says : PySem.W.nsIn K mainGlobals "_law_says" = some (some (.ref f_says)))
    (l_says : K.lookup f_says = some ⟨oc_says, od_says, .func (PySem.W.fnOf "_law_says" "_law_says" (defArgs s_says) (defBody s_says) (defScope s_says) .none kV_says dc_says pm_says an_says cd_says ct_says), sl_says⟩)
    (c_says : PySem.W.codeIn K cd_says "_law_says" = true)
    (k_says : PySem.W.keepIn K (.ref f_says) = true)
    (a_relations : PySem.W.nsIn K mainGlobals "_law_relations" = some (some (.ref f_relations)))
    (l_relations : K.lookup f_relations = some ⟨oc_relations, od_relations, .func (PySem.W.fnOf "_law_relations" "_law_relations" (defArgs s_relations) (defBody s_relations) (defScope s_relations) .none kV_relations dc_relations pm_relations an_relations cd_relations ct_relations), sl_relations⟩)
    (c_relations : PySem.W.codeIn K cd_relations "_law_relations" = true)
    (k_relations : PySem.W.keepIn K (.ref f_relations) = true)
    (a_mod : PySem.W.nsIn K mainGlobals "monomials_of_degree" = some (some (.ref f_mod)))
    (l_mod : K.lookup f_mod = some ⟨oc_mod, od_mod, .func (PySem.W.fnOf "monomials_of_degree" "monomials_of_degree" (defArgs s_mod) (defBody s_mod) (defScope s_mod) .none kV_mod dc_mod pm_mod an_mod cd_mod ct_mod), sl_mod⟩)
    (c_mod : PySem.W.codeIn K cd_mod "monomials_of_degree" = true)
    (k_mod : PySem.W.keepIn K (.ref f_mod) = true)
    (a_up : PySem.W.nsIn K mainGlobals "monomials_up_to" = some (some (.ref f_up)))
    (l_up : K.lookup f_up = some ⟨oc_up, od_up, .func (PySem.W.fnOf "monomials_up_to" "monomials_up_to" (defArgs s_up) (defBody s_up) (defScope s_up) .none kV_up dc_up pm_up an_up cd_up ct_up), sl_up⟩)
    (c_up : PySem.W.codeIn K cd_up "monomials_up_to" = true)
    (k_up : PySem.W.keepIn K (.ref f_up) = true)
    (a_lists : PySem.W.nsIn K mainGlobals "_law_lists" = some (some (.ref f_lists)))
    (l_lists : K.lookup f_lists = some ⟨oc_lists, od_lists, .func (PySem.W.fnOf "_law_lists" "_law_lists" (defArgs s_lists) (defBody s_lists) (defScope s_lists) .none kV_lists dc_lists pm_lists an_lists cd_lists ct_lists), sl_lists⟩)
    (c_lists : PySem.W.codeIn K cd_lists "_law_lists" = true)
    (k_lists : PySem.W.keepIn K (.ref f_lists) = true)
    (a_refused : PySem.W.nsIn K mainGlobals "_law_refused" = some (some (.ref f_refused)))
    (l_refused : K.lookup f_refused = some ⟨oc_refused, od_refused, .func (PySem.W.fnOf "_law_refused" "_law_refused" (defArgs s_refused) (defBody s_refused) (defScope s_refused) .none kV_refused dc_refused pm_refused an_refused cd_refused ct_refused), sl_refused⟩)
    (c_refused : PySem.W.codeIn K cd_refused "_law_refused" = true)
    (k_refused : PySem.W.keepIn K (.ref f_refused) = true)
    (a_idle : PySem.W.nsIn K mainGlobals "_law_idle" = some (some (.ref f_idle)))
    (l_idle : K.lookup f_idle = some ⟨oc_idle, od_idle, .func (PySem.W.fnOf "_law_idle" "_law_idle" (defArgs s_idle) (defBody s_idle) (defScope s_idle) .none kV_idle dc_idle pm_idle an_idle cd_idle ct_idle), sl_idle⟩)
    (c_idle : PySem.W.codeIn K cd_idle "_law_idle" = true)
    (k_idle : PySem.W.keepIn K (.ref f_idle) = true)
    (a_law : PySem.W.nsIn K mainGlobals "law" = some (some (.ref f_law)))
    (l_law : K.lookup f_law = some ⟨oc_law, od_law, .func (PySem.W.fnOf "law" "law" (defArgs s_law) (defBody s_law) (defScope s_law) .none kV_law dc_law pm_law an_law cd_law ct_law), sl_law⟩)
    (c_law : PySem.W.codeIn K cd_law "law" = true)
    (k_law : PySem.W.keepIn K (.ref f_law) = true)
    : ∃ fd : FuncData, (∀ (s : Shared) (v : Value), BindsTo s fd ⟨[v], []⟩ [("script", v)]) ∧ ∀ base : Heap, K.In base → base.Ns mainGlobals mg → FnOk P w K mg base CX0 11 fa fd ["script"] (spLaw K) := by
  have e := hfa.symm.trans (PySem.W.mg_of X G a_law)
  obtain rfl : f_law = fa := by
    cases e
    rfl
  have F_pool := fun_mk (st := s_pool) l_pool c_pool k_pool
  have b_pool := F_pool.binds (ps := ["script"]) fun _ _ _ _ _ _ us hl => match us, hl with | [_], _ => rfl
  have F_take := fun_mk (st := s_take) l_take c_take k_take
  have b_take := F_take.binds (ps := ["pool", "most"]) fun _ _ _ _ _ _ us hl => match us, hl with | [_, _], _ => rfl
  have F_integer := fun_mk (st := s_integer) l_integer c_integer k_integer
  have b_integer := F_integer.binds (ps := ["thing"]) fun _ _ _ _ _ _ us hl => match us, hl with | [_], _ => rfl
  have F_chk := fun_mk (st := s_chk) l_chk c_chk k_chk
  have b_chk := F_chk.binds (ps := ["dimension"]) fun _ _ _ _ _ _ us hl => match us, hl with | [_], _ => rfl
  have F_chke := fun_mk (st := s_chke) l_chke c_chke k_chke
  have b_chke := F_chke.binds (ps := ["entries", "dimension"]) fun _ _ _ _ _ _ us hl => match us, hl with | [_, _], _ => rfl
  have F_place := fun_mk (st := s_place) l_place c_place k_place
  have b_place := F_place.binds (ps := ["exponents"]) fun _ _ _ _ _ _ us hl => match us, hl with | [_], _ => rfl
  have F_pair := fun_mk (st := s_pair) l_pair c_pair k_pair
  have b_pair := F_pair.binds (ps := ["first", "second"]) fun _ _ _ _ _ _ us hl => match us, hl with | [_, _], _ => rfl
  have F_before := fun_mk (st := s_before) l_before c_before k_before
  have b_before := F_before.binds (ps := ["first", "second"]) fun _ _ _ _ _ _ us hl => match us, hl with | [_, _], _ => rfl
  have F_divides := fun_mk (st := s_divides) l_divides c_divides k_divides
  have b_divides := F_divides.binds (ps := ["first", "second"]) fun _ _ _ _ _ _ us hl => match us, hl with | [_, _], _ => rfl
  have F_mfac := fun_mk (st := s_mfac) l_mfac c_mfac k_mfac
  have b_mfac := F_mfac.binds (ps := ["exponents"]) fun _ _ _ _ _ _ us hl => match us, hl with | [_], _ => rfl
  have F_lexp := fun_mk (st := s_lexp) l_lexp c_lexp k_lexp
  have b_lexp := F_lexp.binds (ps := ["pool", "dimension", "high"]) fun _ _ _ _ _ _ us hl => match us, hl with | [_, _, _], _ => rfl
  have F_lodeg := fun_mk (st := s_lodeg) l_lodeg c_lodeg k_lodeg
  have b_lodeg := F_lodeg.binds (ps := ["pool", "dimension", "total"]) fun _ _ _ _ _ _ us hl => match us, hl with | [_, _, _], _ => rfl
  have F_lsecond := fun_mk (st := s_lsecond) l_lsecond c_lsecond k_lsecond
  have b_lsecond := F_lsecond.binds (ps := ["pool", "first"]) fun _ _ _ _ _ _ us hl => match us, hl with | [_, _], _ => rfl
  have F_lbefore := fun_mk (st := s_lbefore) l_lbefore c_lbefore k_lbefore
  have b_lbefore := F_lbefore.binds (ps := ["first", "second"]) fun _ _ _ _ _ _ us hl => match us, hl with | [_, _], _ => rfl
  have F_lwithin := fun_mk (st := s_lwithin) l_lwithin c_lwithin k_lwithin
  have b_lwithin := F_lwithin.binds (ps := ["first", "second"]) fun _ _ _ _ _ _ us hl => match us, hl with | [_, _], _ => rfl
  have F_lfac := fun_mk (st := s_lfac) l_lfac c_lfac k_lfac
  have b_lfac := F_lfac.binds (ps := ["exponents"]) fun _ _ _ _ _ _ us hl => match us, hl with | [_], _ => rfl
  have F_lmany := fun_mk (st := s_lmany) l_lmany c_lmany k_lmany
  have b_lmany := F_lmany.binds (ps := ["dimension", "high"]) fun _ _ _ _ _ _ us hl => match us, hl with | [_, _], _ => rfl
  have F_listed := fun_mk (st := s_listed) l_listed c_listed k_listed
  have b_listed := F_listed.binds (ps := ["told", "dimension", "low", "high", "many"]) fun _ _ _ _ _ _ us hl => match us, hl with | [_, _, _, _, _], _ => rfl
  have F_says := fun_mk (st := s_says) l_says c_says k_says
  have b_says := F_says.binds (ps := ["told", "due"]) fun _ _ _ _ _ _ us hl => match us, hl with | [_, _], _ => rfl
  have F_relations := fun_mk (st := s_relations) l_relations c_relations k_relations
  have b_relations := F_relations.binds (ps := ["first", "second"]) fun _ _ _ _ _ _ us hl => match us, hl with | [_, _], _ => rfl
  have F_mod := fun_mk (st := s_mod) l_mod c_mod k_mod
  have b_mod := F_mod.binds (ps := ["dimension", "degree"]) fun _ _ _ _ _ _ us hl => match us, hl with | [_, _], _ => rfl
  have F_up := fun_mk (st := s_up) l_up c_up k_up
  have b_up := F_up.binds (ps := ["dimension", "degree"]) fun _ _ _ _ _ _ us hl => match us, hl with | [_, _], _ => rfl
  have F_lists := fun_mk (st := s_lists) l_lists c_lists k_lists
  have b_lists := F_lists.binds (ps := ["dimension", "high"]) fun _ _ _ _ _ _ us hl => match us, hl with | [_, _], _ => rfl
  have F_refused := fun_mk (st := s_refused) l_refused c_refused k_refused
  have b_refused := F_refused.binds (ps := ["kind", "first", "second", "dimension", "high"]) fun _ _ _ _ _ _ us hl => match us, hl with | [_, _, _, _, _], _ => rfl
  have F_idle := fun_mk (st := s_idle) l_idle c_idle k_idle
  have b_idle := F_idle.binds (ps := ["dimension", "high"]) fun _ _ _ _ _ _ us hl => match us, hl with | [_, _], _ => rfl
  have F_law := fun_mk (st := s_law) l_law c_law k_law
  have b_law := F_law.binds (ps := ["script"]) fun _ _ _ _ _ _ us hl => match us, hl with | [_], _ => rfl
  have T : Txt K mg {
      WD := Z,
      BM := BM,
      BI := BI,
      SE := SE,
      f_pool := f_pool,
      d_pool := PySem.W.fnOf "_law_pool" "_law_pool" (defArgs s_pool) (defBody s_pool) (defScope s_pool) .none kV_pool dc_pool pm_pool an_pool cd_pool ct_pool,
      f_take := f_take,
      d_take := PySem.W.fnOf "_law_take" "_law_take" (defArgs s_take) (defBody s_take) (defScope s_take) .none kV_take dc_take pm_take an_take cd_take ct_take,
      f_integer := f_integer,
      d_integer := PySem.W.fnOf "_law_integer" "_law_integer" (defArgs s_integer) (defBody s_integer) (defScope s_integer) .none kV_integer dc_integer pm_integer an_integer cd_integer ct_integer,
      f_chk := f_chk,
      d_chk := PySem.W.fnOf "check_dimension" "check_dimension" (defArgs s_chk) (defBody s_chk) (defScope s_chk) .none kV_chk dc_chk pm_chk an_chk cd_chk ct_chk,
      f_chke := f_chke,
      d_chke := PySem.W.fnOf "check_entries" "check_entries" (defArgs s_chke) (defBody s_chke) (defScope s_chke) .none kV_chke dc_chke pm_chke an_chke cd_chke ct_chke,
      f_place := f_place,
      d_place := PySem.W.fnOf "standard_place" "standard_place" (defArgs s_place) (defBody s_place) (defScope s_place) .none kV_place dc_place pm_place an_place cd_place ct_place,
      f_pair := f_pair,
      d_pair := PySem.W.fnOf "_check_pair" "_check_pair" (defArgs s_pair) (defBody s_pair) (defScope s_pair) .none kV_pair dc_pair pm_pair an_pair cd_pair ct_pair,
      f_before := f_before,
      d_before := PySem.W.fnOf "comes_before" "comes_before" (defArgs s_before) (defBody s_before) (defScope s_before) .none kV_before dc_before pm_before an_before cd_before ct_before,
      f_divides := f_divides,
      d_divides := PySem.W.fnOf "divides" "divides" (defArgs s_divides) (defBody s_divides) (defScope s_divides) .none kV_divides dc_divides pm_divides an_divides cd_divides ct_divides,
      f_mfac := f_mfac,
      d_mfac := PySem.W.fnOf "monomial_factorial" "monomial_factorial" (defArgs s_mfac) (defBody s_mfac) (defScope s_mfac) .none kV_mfac dc_mfac pm_mfac an_mfac cd_mfac ct_mfac,
      f_lexp := f_lexp,
      d_lexp := PySem.W.fnOf "_law_exponents" "_law_exponents" (defArgs s_lexp) (defBody s_lexp) (defScope s_lexp) .none kV_lexp dc_lexp pm_lexp an_lexp cd_lexp ct_lexp,
      f_lodeg := f_lodeg,
      d_lodeg := PySem.W.fnOf "_law_of_degree" "_law_of_degree" (defArgs s_lodeg) (defBody s_lodeg) (defScope s_lodeg) .none kV_lodeg dc_lodeg pm_lodeg an_lodeg cd_lodeg ct_lodeg,
      f_lsecond := f_lsecond,
      d_lsecond := PySem.W.fnOf "_law_second" "_law_second" (defArgs s_lsecond) (defBody s_lsecond) (defScope s_lsecond) .none kV_lsecond dc_lsecond pm_lsecond an_lsecond cd_lsecond ct_lsecond,
      f_lbefore := f_lbefore,
      d_lbefore := PySem.W.fnOf "_law_before" "_law_before" (defArgs s_lbefore) (defBody s_lbefore) (defScope s_lbefore) .none kV_lbefore dc_lbefore pm_lbefore an_lbefore cd_lbefore ct_lbefore,
      f_lwithin := f_lwithin,
      d_lwithin := PySem.W.fnOf "_law_within" "_law_within" (defArgs s_lwithin) (defBody s_lwithin) (defScope s_lwithin) .none kV_lwithin dc_lwithin pm_lwithin an_lwithin cd_lwithin ct_lwithin,
      f_lfac := f_lfac,
      d_lfac := PySem.W.fnOf "_law_factors" "_law_factors" (defArgs s_lfac) (defBody s_lfac) (defScope s_lfac) .none kV_lfac dc_lfac pm_lfac an_lfac cd_lfac ct_lfac,
      f_lmany := f_lmany,
      d_lmany := PySem.W.fnOf "_law_many" "_law_many" (defArgs s_lmany) (defBody s_lmany) (defScope s_lmany) .none kV_lmany dc_lmany pm_lmany an_lmany cd_lmany ct_lmany,
      f_listed := f_listed,
      d_listed := PySem.W.fnOf "_law_listed" "_law_listed" (defArgs s_listed) (defBody s_listed) (defScope s_listed) .none kV_listed dc_listed pm_listed an_listed cd_listed ct_listed,
      f_says := f_says,
      d_says := PySem.W.fnOf "_law_says" "_law_says" (defArgs s_says) (defBody s_says) (defScope s_says) .none kV_says dc_says pm_says an_says cd_says ct_says,
      f_relations := f_relations,
      d_relations := PySem.W.fnOf "_law_relations" "_law_relations" (defArgs s_relations) (defBody s_relations) (defScope s_relations) .none kV_relations dc_relations pm_relations an_relations cd_relations ct_relations,
      f_mod := f_mod,
      d_mod := PySem.W.fnOf "monomials_of_degree" "monomials_of_degree" (defArgs s_mod) (defBody s_mod) (defScope s_mod) .none kV_mod dc_mod pm_mod an_mod cd_mod ct_mod,
      f_up := f_up,
      d_up := PySem.W.fnOf "monomials_up_to" "monomials_up_to" (defArgs s_up) (defBody s_up) (defScope s_up) .none kV_up dc_up pm_up an_up cd_up ct_up,
      f_lists := f_lists,
      d_lists := PySem.W.fnOf "_law_lists" "_law_lists" (defArgs s_lists) (defBody s_lists) (defScope s_lists) .none kV_lists dc_lists pm_lists an_lists cd_lists ct_lists,
      f_refused := f_refused,
      d_refused := PySem.W.fnOf "_law_refused" "_law_refused" (defArgs s_refused) (defBody s_refused) (defScope s_refused) .none kV_refused dc_refused pm_refused an_refused cd_refused ct_refused,
      f_idle := f_idle,
      d_idle := PySem.W.fnOf "_law_idle" "_law_idle" (defArgs s_idle) (defBody s_idle) (defScope s_idle) .none kV_idle dc_idle pm_idle an_idle cd_idle ct_idle,
      f_law := f_law,
      d_law := PySem.W.fnOf "law" "law" (defArgs s_law) (defBody s_law) (defScope s_law) .none kV_law dc_law pm_law an_law cd_law ct_law } :=
    {
      g_factorial := PySem.W.mg_of X G gfac,
      c_DIMENSIONS := ⟨_, PySem.W.mg_of X G gdim, ⟨tkD, rfl⟩⟩,
      xW := xZ,
      gW := PySem.W.mg_of X G gZ,
      kW := kZ,
      bW := bZ,
      tW := tZ,
      stop := pZ,
      g_BadMonomial := PySem.W.mg_of X G gBM,
      g_BadIndex := PySem.W.mg_of X G gBI,
      g_SpotError := PySem.W.mg_of X G gSE,
      exc := ⟨⟨zg, zk, bZ, zd, za, cn, ct, zm⟩, PySem.W.exm_ref bS dS tS sS, kit_tyr (by decide +kernel) sve, kit_other szz sBM dBM tBM, kit_other szz sBI dBI tBI⟩,
      n_len := PySem.W.mg_none_of X G n_len,
      n_abs := PySem.W.mg_none_of X G n_abs,
      n_int := PySem.W.mg_none_of X G n_int,
      n_list := PySem.W.mg_none_of X G n_list,
      n_tuple := PySem.W.mg_none_of X G n_tuple,
      n_bool := PySem.W.mg_none_of X G n_bool,
      n_sum := PySem.W.mg_none_of X G n_sum,
      n_max := PySem.W.mg_none_of X G n_max,
      n_all := PySem.W.mg_none_of X G n_all,
      n_zip := PySem.W.mg_none_of X G n_zip,
      n_isinstance := PySem.W.mg_none_of X G n_isinstance,
      n_range := PySem.W.mg_none_of X G n_range,
      n_ValueError := PySem.W.mg_none_of X G n_ValueError,
      F_pool := F_pool,
      b_pool := b_pool,
      g_pool := PySem.W.mg_of X G a_pool,
      k_pool := k_pool,
      F_take := F_take,
      b_take := b_take,
      g_take := PySem.W.mg_of X G a_take,
      k_take := k_take,
      F_integer := F_integer,
      b_integer := b_integer,
      g_integer := PySem.W.mg_of X G a_integer,
      k_integer := k_integer,
      F_chk := F_chk,
      b_chk := b_chk,
      g_chk := PySem.W.mg_of X G a_chk,
      k_chk := k_chk,
      F_chke := F_chke,
      b_chke := b_chke,
      g_chke := PySem.W.mg_of X G a_chke,
      k_chke := k_chke,
      F_place := F_place,
      b_place := b_place,
      g_place := PySem.W.mg_of X G a_place,
      k_place := k_place,
      F_pair := F_pair,
      b_pair := b_pair,
      g_pair := PySem.W.mg_of X G a_pair,
      k_pair := k_pair,
      F_before := F_before,
      b_before := b_before,
      g_before := PySem.W.mg_of X G a_before,
      k_before := k_before,
      F_divides := F_divides,
      b_divides := b_divides,
      g_divides := PySem.W.mg_of X G a_divides,
      k_divides := k_divides,
      F_mfac := F_mfac,
      b_mfac := b_mfac,
      g_mfac := PySem.W.mg_of X G a_mfac,
      k_mfac := k_mfac,
      F_lexp := F_lexp,
      b_lexp := b_lexp,
      g_lexp := PySem.W.mg_of X G a_lexp,
      k_lexp := k_lexp,
      F_lodeg := F_lodeg,
      b_lodeg := b_lodeg,
      g_lodeg := PySem.W.mg_of X G a_lodeg,
      k_lodeg := k_lodeg,
      F_lsecond := F_lsecond,
      b_lsecond := b_lsecond,
      g_lsecond := PySem.W.mg_of X G a_lsecond,
      k_lsecond := k_lsecond,
      F_lbefore := F_lbefore,
      b_lbefore := b_lbefore,
      g_lbefore := PySem.W.mg_of X G a_lbefore,
      k_lbefore := k_lbefore,
      F_lwithin := F_lwithin,
      b_lwithin := b_lwithin,
      g_lwithin := PySem.W.mg_of X G a_lwithin,
      k_lwithin := k_lwithin,
      F_lfac := F_lfac,
      b_lfac := b_lfac,
      g_lfac := PySem.W.mg_of X G a_lfac,
      k_lfac := k_lfac,
      F_lmany := F_lmany,
      b_lmany := b_lmany,
      g_lmany := PySem.W.mg_of X G a_lmany,
      k_lmany := k_lmany,
      F_listed := F_listed,
      b_listed := b_listed,
      g_listed := PySem.W.mg_of X G a_listed,
      k_listed := k_listed,
      F_says := F_says,
      b_says := b_says,
      g_says := PySem.W.mg_of X G a_says,
      k_says := k_says,
      F_relations := F_relations,
      b_relations := b_relations,
      g_relations := PySem.W.mg_of X G a_relations,
      k_relations := k_relations,
      F_mod := F_mod,
      b_mod := b_mod,
      g_mod := PySem.W.mg_of X G a_mod,
      k_mod := k_mod,
      F_up := F_up,
      b_up := b_up,
      g_up := PySem.W.mg_of X G a_up,
      k_up := k_up,
      F_lists := F_lists,
      b_lists := b_lists,
      g_lists := PySem.W.mg_of X G a_lists,
      k_lists := k_lists,
      F_refused := F_refused,
      b_refused := b_refused,
      g_refused := PySem.W.mg_of X G a_refused,
      k_refused := k_refused,
      F_idle := F_idle,
      b_idle := b_idle,
      g_idle := PySem.W.mg_of X G a_idle,
      k_idle := k_idle,
      F_law := F_law,
      b_law := b_law,
      g_law := PySem.W.mg_of X G a_law,
      k_law := k_law }
  exact ⟨_, fun s v => .of_eq rfl, fun base _ _ => ok_law T⟩
theorem walk {l : PySem.W.OpenLaw} {q : Program} {loose : List Str} {XP : (Str → Option Value) → Heap → Prop} {YP : World → Heap → Prop} {d : DefRec} {K : Params → PySem.W.Frag} (hn : l.most = some 63) (hdf : d.params.defaults = [])
    (hY : ∀ (w : World) (h : Heap), YP w h → (K w.params).In h)
    (F : ∀ (w : World) (mg : Str → Option Value) (fa : Addr) (h : Heap), (K w.params).In h → h.Ns mainGlobals mg → mg d.name = some (.ref fa) →
      ∃ fd : FuncData, (∀ (s : Shared) (u : Value), BindsTo s fd ⟨[u], []⟩ [("script", u)]) ∧ ∀ base : Heap, (K w.params).In base → base.Ns mainGlobals mg → FnOk l.prog w (K w.params) mg base CX0 11 fa fd ["script"] (spLaw (K w.params))) :
    PySem.W.WalkO q loose XP YP l.row.toRowW d [] (fun f vs => PySem.call f vs) :=
  L2.walk_of (n := 63) (k := 11) (x := "script") (CX := fun _ => CX0) (sp := fun w => spLaw (K w.params)) hn (by decide) hdf ⟨rfl, by decide, by decide⟩ hY F (fun _ _ a ns hl _ hS => ⟨a, ns, rfl, hS, hl, fun _ => rfl⟩) fun _ _ _ _ _ z => z
end SpX

set_option Elab.async false
open PySem PySem.W PyProof.Rows
set_option maxRecDepth 100000 in
set_option maxHeartbeats 0 in
theorem PySem.Challenge.cw_spotheights_k02_monomials_in_order_holds : PySem.Challenge.rw_spotheights_k02_monomials_in_order.Holds := by
  w_on; o_law; k_head; (case hw => w_witness2)
  k_fill
  refine SpX.walk (l := PySem.Challenge.rw_spotheights_k02_monomials_in_order) rfl rfl (fun w h Y => PySem.W.kIn_of Y) ?F
  case F =>
    intro w mg fa h KX G hmg
    refine' SpX.all_mk KX G hmg ?gZ ?gBM ?gBI ?gSE ?n_len ?n_abs ?n_int ?n_list ?n_tuple ?n_bool ?n_sum ?n_max ?n_all ?n_zip ?n_isinstance ?n_range ?n_ValueError ?gfac ?gdim ?cn ?ct ?xZ ?kZ ?bZ ?pZ ?tZ ?zg ?zk ?zd ?za ?zm ?bS ?dS ?tS ?sS ?sve ?szz ?sBM ?dBM ?tBM ?sBI ?dBI ?tBI ?a_pool ?l_pool ?c_pool ?k_pool ?a_take ?l_take ?c_take ?k_take ?a_integer ?l_integer ?c_integer ?k_integer ?a_chk ?l_chk ?c_chk ?k_chk ?a_chke ?l_chke ?c_chke ?k_chke ?a_place ?l_place ?c_place ?k_place ?a_pair ?l_pair ?c_pair ?k_pair ?a_before ?l_before ?c_before ?k_before ?a_divides ?l_divides ?c_divides ?k_divides ?a_mfac ?l_mfac ?c_mfac ?k_mfac ?a_lexp ?l_lexp ?c_lexp ?k_lexp ?a_lodeg ?l_lodeg ?c_lodeg ?k_lodeg ?a_lsecond ?l_lsecond ?c_lsecond ?k_lsecond ?a_lbefore ?l_lbefore ?c_lbefore ?k_lbefore ?a_lwithin ?l_lwithin ?c_lwithin ?k_lwithin ?a_lfac ?l_lfac ?c_lfac ?k_lfac ?a_lmany ?l_lmany ?c_lmany ?k_lmany ?a_listed ?l_listed ?c_listed ?k_listed ?a_says ?l_says ?c_says ?k_says ?a_relations ?l_relations ?c_relations ?k_relations ?a_mod ?l_mod ?c_mod ?k_mod ?a_up ?l_up ?c_up ?k_up ?a_lists ?l_lists ?c_lists ?k_lists ?a_refused ?l_refused ?c_refused ?k_refused ?a_idle ?l_idle ?c_idle ?k_idle ?a_law ?l_law ?c_law ?k_law
    (case gZ => k_is)
    (case gBM => k_is)
    (case gBI => k_is)
    (case gSE => k_is)
    (case n_len => k_is)
    (case n_abs => k_is)
    (case n_int => k_is)
    (case n_list => k_is)
    (case n_tuple => k_is)
    (case n_bool => k_is)
    (case n_sum => k_is)
    (case n_max => k_is)
    (case n_all => k_is)
    (case n_zip => k_is)
    (case n_isinstance => k_is)
    (case n_range => k_is)
    (case n_ValueError => k_is)
    (case gfac => k_is)
    (case gdim => k_is)
    (case cn => k_is)
    (case ct => k_is)
    (case xZ => k_exc)
    (case kZ => k_is)
    (case bZ => k_is)
    (case pZ => k_is)
    (case tZ => k_is)
    (case zg => k_is)
    (case zk => k_is)
    (case zd => k_is)
    (case za => k_is)
    (case zm => k_is)
    (case bS => k_is)
    (case dS => k_is)
    (case tS => k_is)
    (case sS => k_is)
    (case sve => k_is)
    (case szz => first | rfl | k_is)
    (case sBM => k_is)
    (case dBM => k_is)
    (case tBM => k_is)
    (case sBI => k_is)
    (case dBI => k_is)
    (case tBI => k_is)
    (case a_pool => k_is)
    (case l_pool => k_is)
    (case c_pool => k_is)
    (case k_pool => k_is)
    (case a_take => k_is)
    (case l_take => k_is)
    (case c_take => k_is)
    (case k_take => k_is)
    (case a_integer => k_is)
    (case l_integer => k_is)
    (case c_integer => k_is)
    (case k_integer => k_is)
    (case a_chk => k_is)
    (case l_chk => k_is)
    (case c_chk => k_is)
    (case k_chk => k_is)
    (case a_chke => k_is)
    (case l_chke => k_is)
    (case c_chke => k_is)
    (case k_chke => k_is)
    (case a_place => k_is)
    (case l_place => k_is)
    (case c_place => k_is)
    (case k_place => k_is)
    (case a_pair => k_is)
    (case l_pair => k_is)
    (case c_pair => k_is)
    (case k_pair => k_is)
    (case a_before => k_is)
    (case l_before => k_is)
    (case c_before => k_is)
    (case k_before => k_is)
    (case a_divides => k_is)
    (case l_divides => k_is)
    (case c_divides => k_is)
    (case k_divides => k_is)
    (case a_mfac => k_is)
    (case l_mfac => k_is)
    (case c_mfac => k_is)
    (case k_mfac => k_is)
    (case a_lexp => k_is)
    (case l_lexp => k_is)
    (case c_lexp => k_is)
    (case k_lexp => k_is)
    (case a_lodeg => k_is)
    (case l_lodeg => k_is)
    (case c_lodeg => k_is)
    (case k_lodeg => k_is)
    (case a_lsecond => k_is)
    (case l_lsecond => k_is)
    (case c_lsecond => k_is)
    (case k_lsecond => k_is)
    (case a_lbefore => k_is)
    (case l_lbefore => k_is)
    (case c_lbefore => k_is)
    (case k_lbefore => k_is)
    (case a_lwithin => k_is)
    (case l_lwithin => k_is)
    (case c_lwithin => k_is)
    (case k_lwithin => k_is)
    (case a_lfac => k_is)
    (case l_lfac => k_is)
    (case c_lfac => k_is)
    (case k_lfac => k_is)
    (case a_lmany => k_is)
    (case l_lmany => k_is)
    (case c_lmany => k_is)
    (case k_lmany => k_is)
    (case a_listed => k_is)
    (case l_listed => k_is)
    (case c_listed => k_is)
    (case k_listed => k_is)
    (case a_says => k_is)
    (case l_says => k_is)
    (case c_says => k_is)
    (case k_says => k_is)
    (case a_relations => k_is)
    (case l_relations => k_is)
    (case c_relations => k_is)
    (case k_relations => k_is)
    (case a_mod => k_is)
    (case l_mod => k_is)
    (case c_mod => k_is)
    (case k_mod => k_is)
    (case a_up => k_is)
    (case l_up => k_is)
    (case c_up => k_is)
    (case k_up => k_is)
    (case a_lists => k_is)
    (case l_lists => k_is)
    (case c_lists => k_is)
    (case k_lists => k_is)
    (case a_refused => k_is)
    (case l_refused => k_is)
    (case c_refused => k_is)
    (case k_refused => k_is)
    (case a_idle => k_is)
    (case l_idle => k_is)
    (case c_idle => k_is)
    (case k_idle => k_is)
    (case a_law => k_is)
    (case l_law => k_is)
    (case c_law => k_is)
    (case k_law => k_is)

