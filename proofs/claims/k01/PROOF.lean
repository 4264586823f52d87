import PyProof.Rows.All
import Wide.All
import OpenK.AllK
import Wide.FinOn
import HandS.ForMost
import HandS.ForExc
import HandS.Wide
import HandS.WideBits
import HandS.Gcd
import HandS.IsInst
import HandS.ExcIs
import HandS.Codes
import HandS.Defaults
import KE.KOpsOwn
import HandS.OwnEq
import PyProof.Rows.Range3
import HandS.List
import HandS.Words
import HandS.WordsExc
import HandS.ExcInit
import KE.KExcSuper
import HandS.ExcOwn
import HandS.ClsMeth
import HandS.FStr
import HandS.Style
import HandS.StrMore
import HandS.Text
import HandS.ExcField
import KE.KCallOwn
import KE.KExcIs
import KE.KMethU
import PyProof.StrBlock2
import KE.DataEq
import PyProof.Rows.StrFirst
import PyProof.Rows.StrCut
import PyProof.Rows.StrPartPair
import PyProof.Rows.StrDigitsNeg
import KE.IntTextLaws
import HandS.Walk
import PyProof.Rows.StrJoinRep
import PySem.Challenge.RW_spotheights_k01_number_texts
import KE.KExcLine
set_option Elab.async false
set_option linter.all false
set_option maxRecDepth 100000
set_option maxHeartbeats 2000000
/-! Readings run by simp, from the outside in: one equation a construct. -/
namespace SpX
open PySem PySem.Spec L2

section
variable {D : Ends} {σ : L2.St} {H : Hp} {Q : VK} {R : Bool → Hp → Prop} {t u : TS} {te ta tb : TE} {tc tt tu : TT} {g : TG} {i : Nat} {v x y : V} {o : Option V} {r : R2} {K : PySem.W.Frag}
theorem x_seq : tSeq t u D σ H = t { D with nx := u D } σ H := rfl
theorem x_next : tNext D σ H = D.nx σ H := rfl
theorem x_asg : tAsg te g D σ H = te σ H (fun x H1 => g x σ H1 D.nx) := rfl
theorem x_name {Q : L2.St → Hp → Prop} : gName i v σ H Q = Q (σ.set i (some v)) H := rfl
theorem x_drop : tDrop te D σ H = te σ H (fun _ H1 => D.nx σ H1) := rfl
theorem x_ret : tRet te D σ H = te σ H D.rt := rfl
theorem x_if : tIfS tc t u D σ H = tc σ H (fun b H1 => if b = true then t D σ H1 else u D σ H1) := rfl
theorem x_var0 : tVar 0 (some v :: σ) H Q = Q v H := by
  unfold tVar
  simp
theorem x_varS : tVar (i + 1) (o :: σ) H Q = tVar i σ H Q := by
  unfold tVar
  simp
theorem x_c : tC v σ H Q = Q v H := rfl
theorem x_op : tOp r ta tb σ H Q = ta σ H (fun x H1 => tb σ H1 fun y H2 => r x y H2 Q) := rfl
theorem x_un {r : V → Hp → VK → Prop} : tUn r ta σ H Q = ta σ H (fun x H1 => r x H1 Q) := rfl
theorem x_I0 {g : Int → Int → V} {a b : Int} : rI0 g (.int a) (.int b) H Q = Q (g a b) H := by
  unfold rI0
  simp
theorem x_I {C : Int → Int → Prop} {g : Int → Int → V} {a b : Int} : rI C g (.int a) (.int b) H Q = (C a b ∧ Q (g a b) H) := by
  unfold rI
  simp
theorem x_U {g : Int → V} {a : Int} : rU g (.int a) H Q = Q (g a) H := by
  unfold rU
  simp
theorem x_test : tTest te σ H R = te σ H (fun x H' => ∃ k, x = .bl k ∧ R k H') := rfl
theorem x_B : tB te σ H R = te σ H (fun x H' => ∃ k, x = .bl k ∧ R k H') := rfl
theorem x_bl {b : Bool} {P : Bool → Prop} : (∃ k, V.bl b = .bl k ∧ P k) = P b := by simp
theorem x_not : tNot tt σ H R = tt σ H (fun c H1 => R (!c) H1) := rfl
theorem x_and : tAnd tt tu σ H R = tt σ H (fun c H1 => if c = true then tu σ H1 R else R false H1) := rfl
theorem x_or : tOr tt tu σ H R = tt σ H (fun c H1 => if c = true then R true H1 else tu σ H1 R) := rfl
theorem x_andV : tAndV ta tb σ H Q = ta σ H (fun x H1 => ∃ c, x = .bl c ∧ if c = true then tb σ H1 Q else Q (.bl false) H1) := rfl
theorem x_orV : tOrV ta tb σ H Q = ta σ H (fun x H1 => ∃ c, x = .bl c ∧ if c = true then Q (.bl true) H1 else tb σ H1 Q) := rfl
theorem x_notV : tNotV ta σ H Q = ta σ H (fun x H1 => ∃ c, x = .bl c ∧ Q (.bl (!c)) H1) := rfl
theorem x_ifE : tIf tt ta tb σ H Q = tt σ H (fun c H1 => if c = true then ta σ H1 Q else tb σ H1 Q) := rfl
theorem x_eqI {a b : Int} : rEq (.int a) (.int b) H Q = Q (.bl (decide (a = b))) H := by
  unfold rEq scal
  simp
theorem x_neI {a b : Int} : rNe (.int a) (.int b) H Q = Q (.bl (!decide (a = b))) H := by
  unfold rNe scal
  simp
theorem x_eqB {a b : Bool} : rEq (.bl a) (.bl b) H Q = Q (.bl (decide (a = b))) H := by
  unfold rEq scal
  simp
theorem x_neB {a b : Bool} : rNe (.bl a) (.bl b) H Q = Q (.bl (!decide (a = b))) H := by
  unfold rNe scal
  simp
theorem x_nil {QA : List V → Hp → Prop} : tNil σ H QA = QA [] H := rfl
theorem x_cons {ta : TE} {tr : TA} {QA : List V → Hp → Prop} : tCons ta tr σ H QA = ta σ H (fun x H1 => tr σ H1 fun xs H2 => QA (x :: xs) H2) := rfl
theorem x_cb {r : List V → Hp → VK → Prop} {t : TA} : tCB r t σ H Q = t σ H (fun vs H1 => r vs H1 Q) := rfl
theorem x_call {sp : Sp} {dvs : List V} {E : XK} {t : TA} : tCall sp dvs E t σ H Q = t σ H (fun vs H1 => sp (vs ++ dvs) H1 Q E) := rfl
theorem x_lst {t : TA} : tLst t σ H Q = t σ H (fun xs H1 => xs.length ≤ sizeLine ∧ ∀ p, H1 p = none → Q (.ref p) (upd H1 p (.lst xs))) := rfl
theorem x_tup {t : TA} : tTup t σ H Q = t σ H (fun xs H1 => xs.length ≤ sizeLine ∧ ∀ p, H1 p = none → Q (.ref p) (upd H1 p (.tup xs))) := rfl
theorem x_gsub {to ti : TE} {ts : TSet} {Q : L2.St → Hp → Prop} : gSub to ti ts v σ H Q = to σ H (fun o H1 => ti σ H1 fun i H2 => ts o i v H2 fun H3 => Q σ H3) := rfl
theorem x_sl {r : V → Option Int → Option Int → Hp → VK → Prop} {tl th : TO} : tSl r te tl th σ H Q = te σ H (fun x H1 => tl σ H1 fun l H2 => th σ H2 fun u H3 => r x l u H3 Q) := rfl
theorem x_part {QO : Option Int → Hp → Prop} : tPart te σ H QO = te σ H (fun x H1 => ∃ i, x = .int i ∧ QO (some i) H1) := rfl
theorem x_nopart {QO : Option Int → Hp → Prop} : tNoPart σ H QO = QO none H := rfl
theorem x_int {a : Int} {P : Int → Prop} : (∃ k, V.int a = .int k ∧ P k) = P a := by simp
theorem x_set0 {α : Type} {a b : α} {l : List α} : (a :: l).set 0 b = b :: l := rfl
theorem x_setS {α : Type} {a b : α} {l : List α} : (a :: l).set (i + 1) b = a :: l.set i b := rfl

/-! ### reads of what is tracked -/
theorem SqL.at {p : Addr} {xs : List V} (h : H p = some (.lst xs)) : SqL K H p xs := .inl (.inl h)
theorem SqT.at {p : Addr} {xs : List V} (h : H p = some (.tup xs)) : SqT K H p xs := .inl (.inl h)
end
end SpX

set_option Elab.async false
set_option linter.all false
set_option maxRecDepth 100000
set_option maxHeartbeats 4000000
/-! Operators of a class of the text's own: the rules for instances beside instances and ints. -/
namespace SpX
open PySem PySem.Spec PyProof.Rows L2
section
variable {X : Cx} {CX : CXT} {k : Nat} {f C : Addr} {fd : FuncData} {ps : List Str} {sp : Sp} {E : XK} {op : Operator}

/-- // by a divisor of either sign -/
def CDivF (_ j : Int) : Prop := j ≠ 0 ∧ j.natAbs.log2 < 9000
theorem op_fdivF : OpR X (binaryOp .FloorDiv) (rI CDivF fun i j => .int (i.fdiv j)) := opI fun i j _ _ _ _ _ hc q => PyProof.Rows.floordiv_int hc.1 q (.inl (PyProof.noPylong_of_log2 hc.2))

theorem ep_back {pins : List (Addr × Obj)} {σ : L2.St} {Q : VK} {u : Value} {s' : Shared} (h : EP X pins σ Q u s') : PySem.W.CmpBack (EP X pins σ Q) u s' := by
  cases u with
  | notImplemented =>
    obtain ⟨v, H', I, r, q⟩ := h
    cases v <;> first
      | exact nomatch (show Value.notImplemented = _ from r)
      | exact (let ⟨_, e⟩ := (show ∃ t, Value.notImplemented = _ from r); nomatch e)
  | _ => exact h

/-- what the text must say of the operator op of the class at C: f its method -/
structure OwnOp (K : PySem.W.Frag) (C : Addr) (op : Operator) (f : Addr) : Prop where
  hs : PySem.W.findIn K (.ref C) (PySem.dunder op.info.2) = some (some (.ref f))
  hf : PySem.W.isFn K (.ref f) = true
  hc : PySem.W.selfFirst K C = true
/-- .. beside an int -/
structure OwnInt (K : PySem.W.Frag) (C : Addr) (op : Operator) : Prop where
  hr : ∃ rc, PySem.W.findIn K (.ref C) (dunderR op.info.2) = some rc ∧ (rc = none ∨ ∃ g : Addr, rc = some (.ref g))
  h1 : ∃ fo, PySem.W.findIn K (.type "int") (PySem.dunder op.info.2) = some fo
  h2 : ∃ ro, PySem.W.findIn K (.type "int") (dunderR op.info.2) = some ro
  hsub : PySem.W.subIn K (.type "int") (.ref C) = some false

/-- instance op instance -/
def rOwn2 (C : Addr) (sp : Sp) (E : XK) : R2 := fun x y H Q => ∃ a b dx dy fs gs, x = .ref a ∧ y = .ref b ∧ H a = some (.ins C dx fs) ∧ H b = some (.ins C dy gs) ∧ sp [.ref a, .ref b] H Q E
theorem op_own2 (O : OwnOp X.K C op f) (F : FnOk X.prog X.w X.K X.mg X.base CX k f fd ps sp) (hr : Room k X.A) (hb : Binds X.K fd ps []) (hx : Passes CX X E) : OpR X (binaryOp op) (rOwn2 C sp E) := by
  intro pins s σ H x y v u Q I rx ry h
  obtain ⟨a, b, dx, dy, fs, gs, rfl, rfl, ha, hb', hsp⟩ := h
  cases rx
  cases ry
  obtain ⟨mA, J, _⟩ := ins_get I.hok ha
  obtain ⟨mB, J', _⟩ := ins_get I.hok hb'
  obtain ⟨od, J, _⟩ := J.look
  obtain ⟨od', J', _⟩ := J'.look
  obtain ⟨m, hF⟩ := I.fr
  refine PySem.W.binop_K hF I.ok.mod.kin J J'.type O.hc O.hs O.hf ?_
  refine thn (run_fn (us := [.ref a, .ref b]) (vs := [.ref a, .ref b]) (dvs := []) F hr hb .nil hx I (.cons rfl (.cons rfl .nil)) hsp) fun u s' q => ep_back q
/-- instance op int -/
def rOwnI (C : Addr) (sp : Sp) (E : XK) : R2 := fun x y H Q => ∃ a i dx fs, x = .ref a ∧ y = .int i ∧ H a = some (.ins C dx fs) ∧ sp [.ref a, .int i] H Q E
theorem op_ownI (O : OwnOp X.K C op f) (N : OwnInt X.K C op) (F : FnOk X.prog X.w X.K X.mg X.base CX k f fd ps sp) (hr : Room k X.A) (hb : Binds X.K fd ps []) (hx : Passes CX X E) : OpR X (binaryOp op) (rOwnI C sp E) := by
  intro pins s σ H x y v u Q I rx ry h
  obtain ⟨a, i, dx, fs, rfl, rfl, ha, hsp⟩ := h
  cases rx
  obtain ⟨t, rfl⟩ := ry
  obtain ⟨mA, J, _⟩ := ins_get I.hok ha
  obtain ⟨od, J, _⟩ := J.look
  obtain ⟨m, hF⟩ := I.fr
  obtain ⟨rc, h3, h4⟩ := N.hr
  obtain ⟨fo, h1⟩ := N.h1
  obtain ⟨ro, h2⟩ := N.h2
  refine PySem.W.ksp_binT (T := "int") hF I.ok.mod.kin J rfl O.hc O.hs O.hf h3 h4 h1 h2 N.hsub ?_
  refine thn (run_fn (us := [.ref a, .int i t]) (vs := [.ref a, .int i]) (dvs := []) F hr hb .nil hx I (.cons rfl (.cons ⟨t, rfl⟩ .nil)) hsp) fun u s' q => ep_back q
/-- - instance -/
def rOwnU (C : Addr) (sp : Sp) (E : XK) : V → Hp → VK → Prop := fun x H Q => ∃ a dx fs, x = .ref a ∧ H a = some (.ins C dx fs) ∧ sp [.ref a] H Q E
theorem un_own (hs : PySem.W.findIn X.K (.ref C) "__neg__" = some (some (.ref f))) (hf : PySem.W.isFn X.K (.ref f) = true) (F : FnOk X.prog X.w X.K X.mg X.base CX k f fd ps sp) (hr : Room k X.A) (hb : Binds X.K fd ps []) (hx : Passes CX X E) :
    UnR X (unaryOp .USub) (rOwnU C sp E) := by
  intro pins s σ H x v Q I rx h
  obtain ⟨a, dx, fs, rfl, ha, hsp⟩ := h
  cases rx
  obtain ⟨mA, J, _⟩ := ins_get I.hok ha
  obtain ⟨od, J, _⟩ := J.look
  obtain ⟨m, hF⟩ := I.fr
  refine PySem.W.ksp_neg hF I.ok.mod.kin J hs hf ?_
  exact run_fn (us := [.ref a]) (vs := [.ref a]) (dvs := []) F hr hb .nil hx I (.cons rfl .nil) hsp

/-- the callee runs below a builtin -/
theorem run_fnA {A : Around} {pins : List (Addr × Obj)} {σ : L2.St} {H : Hp} {s : Shared} {Q : VK} {us : List Value} {vs : List V} (sb : Sub X k A) (F : FnOk X.prog X.w X.K X.mg X.base CX k f fd ps sp) (hb : Binds X.K fd ps []) (hx : Passes CX X E)
    (I : Inv X pins σ H s) (r : Vals vs us) (h : sp vs H Q E) : wpAny (model X.prog X.w) A (call (.ref f) us) (EP X pins σ Q) X.xe s := by
  have e0 : Env0 X.prog X.w X.K X.mg X.base A X.stack s H := by
    have e := I.env0
    exact ⟨by rw [sb.fr]; exact e.frames, e.mod, e.bs, e.bsz, e.funs, e.frf, e.hok, e.bare⟩
  have hl := F.len _ _ _ _ h
  have b := hb s us I.kIn (by rw [List.append_nil, ← r.length]; exact hl)
  rw [List.append_nil] at b
  refine wpAny_call (codeAny_mono (F.run A X.stack s H ⟨us, []⟩ us vs Q E sb.room e0 b r h) fun r s' hq => ?_)
  cases r with
  | error e => exact hx pins σ H s e s' I hq
  | ok fl =>
    cases fl with
    | ret u => exact I.after hq
    | next => exact False.elim hq
    | brk => exact False.elim hq
    | cont => exact False.elim hq
/-- abs(instance) -/
def rOwnAbs (C : Addr) (sp : Sp) (E : XK) : List V → Hp → VK → Prop := fun xs H Q => ∃ a dx fs, xs = [.ref a] ∧ H a = some (.ins C dx fs) ∧ sp [.ref a] H Q E
theorem call_absOwn (hs : PySem.W.findIn X.K (.ref C) "__abs__" = some (some (.ref f))) (hf : PySem.W.isFn X.K (.ref f) = true) (F : FnOk X.prog X.w X.K X.mg X.base CX k f fd ps sp) (hr : Room (k + 1) X.A) (hb : Binds X.K fd ps []) (hx : Passes CX X E) :
    CallR X (.builtin "abs") (rOwnAbs C sp E) := by
  intro pins s σ H xs us Q I r h
  obtain ⟨a, dx, fs, rfl, ha, hsp⟩ := h
  obtain ⟨u, rfl, rx⟩ := vals1 r
  cases rx
  obtain ⟨mA, J, _⟩ := ins_get I.hok ha
  obtain ⟨od, J, _⟩ := J.look
  refine PySem.Calls.call_function_entry kind_abs plain_abs entry_abs (args_abs _) ?_
  unfold Builtin.«abs»
  refine wpAny_bind (m := oneArg "abs" _) (wpAny_pure ?_)
  refine wpAny_bind (m := callSpecial? (.ref a) (Str.ofString "__abs__")) (PySem.W.special_fn I.kIn J hs (beq_iff_eq.mp hf) ?_)
  have sb : Sub X k X.A.in1 := Sub.in1 ⟨hr, rfl⟩
  refine thn (run_fnA (us := [.ref a]) (vs := [.ref a]) sb F hb hx I (.cons rfl .nil) hsp) fun u s' q => ?_
  exact wpAny_pure ⟨_, rfl, q⟩
/-- bool(instance) -/
def rOwnBool (C : Addr) (sp : Sp) (E : XK) : List V → Hp → VK → Prop := fun xs H Q => ∃ a dx fs, xs = [.ref a] ∧ H a = some (.ins C dx fs) ∧ sp [.ref a] H (fun v H' => ∃ b, v = .bl b ∧ Q (.bl b) H') E
theorem truthy_own {A : Around} {pins : List (Addr × Obj)} {s : Shared} {σ : L2.St} {H : Hp} {a dx : Addr} {fs : List (Str × V)} {Q : Bool → Hp → Prop} (sb : Sub X k A) (hs : PySem.W.findIn X.K (.ref C) "__bool__" = some (some (.ref f))) (hf : PySem.W.isFn X.K (.ref f) = true) (F : FnOk X.prog X.w X.K X.mg X.base CX k f fd ps sp)
    (hb : Binds X.K fd ps []) (hx : Passes CX X E) (I : Inv X pins σ H s) (ha : H a = some (.ins C dx fs)) (h : sp [.ref a] H (fun v H' => ∃ b, v = .bl b ∧ Q b H') E) : wpAny (model X.prog X.w) A (truthy (.ref a)) (TP X pins σ Q) X.xe s := by
  obtain ⟨mA, J, _⟩ := ins_get I.hok ha
  obtain ⟨od, J, _⟩ := J.look
  obtain ⟨m, hF⟩ := I.fr
  refine PySem.W.truthy_K hF I.ok.mod.kin J hs hf ?_
  refine thn (run_fnA (us := [.ref a]) (vs := [.ref a]) sb F hb hx I (.cons rfl .nil) h) fun u s' q => ?_
  obtain ⟨v, H', I', r, b, rfl, q⟩ := q
  cases r
  exact ⟨H', I', q⟩
theorem call_boolOwn (hs : PySem.W.findIn X.K (.ref C) "__bool__" = some (some (.ref f))) (hf : PySem.W.isFn X.K (.ref f) = true) (F : FnOk X.prog X.w X.K X.mg X.base CX k f fd ps sp) (hr : Room (k + 2) X.A) (hb : Binds X.K fd ps []) (hx : Passes CX X E) :
    CallR X (.type "bool") (rOwnBool C sp E) := by
  intro pins s σ H xs us Q I r h
  obtain ⟨a, dx, fs, rfl, ha, hsp⟩ := h
  obtain ⟨u, rfl, rx⟩ := vals1 r
  cases rx
  have sb : Sub X k X.A.in1.in1 := Sub.in1 (Sub.in1 (⟨hr, rfl⟩ : Sub X (k + 2) X.A))
  refine callType_newIn (S := fun A R s => wpAny (model X.prog X.w) A.in1 (truthy (.ref a)) (fun b s' => R (.ok (.ret (.bool b))) s') (fun e s' => R (.error e) s') s)
    PySem.F.called_bool PySem.F.newNe_bool (PySem.F.typeCall_bool_1 _) (PySem.F.newCall_bool_1 _) (fun obj => PySem.F.args_object_init_2 obj _) PySem.F.entry_bool_new ?_ ?_
  · intro A R s h
    obtain ⟨hp, g, d, tk, os⟩ := s
    have f1 := PySem.F.conv_sub_bool
    unfold Builtin.«bool.__new__»
    repeat (any_goals (first | assumption | with_reducible refine wpAny_mono h (fun b s' q => ?_) (fun _ _ x => x) | wp_step))
  · refine thn (truthy_own (Q := fun b H' => Q (.bl b) H') sb hs hf F hb hx I ha hsp) fun b s' q => ?_
    obtain ⟨H', I', q⟩ := q
    exact ⟨PySem.typeIs_bool _ _, ⟨.bl b, H', I', rfl, q⟩⟩
/-! ### int op instance: the instance's reflected method -/
theorem int_declines {prog : Program} {w : World} {A : Around} {E' : Value → Shared → Prop} {s : Shared} {nm : String} {g : Int → Int → Sem Fin} {i : Int} {t : Tok} {x C dx : Addr} {Q : Fin → Shared → Prop}
    (hsl : slotArgs nm 1 ⟨[.int i t, .ref x], []⟩ = pure (.int i t, [.ref x])) (hx : s.heap.get? x = some (PySem.W.instObj C dx)) (h : Q (.done (.ret .notImplemented)) s) :
    wpAny (model prog w) A (Builtin.Int.intBinary nm g false ⟨[.int i t, .ref x], []⟩) Q E' s := by
  unfold Builtin.Int.intBinary
  rw [hsl]
  refine wpAny_bind (wpAny_pure ?_)
  refine wpAny_bind (m := Builtin.Int.intOfSelf _) (wpAny_pure ?_)
  refine wpAny_bind (m := asInt? (.ref x)) ?_
  unfold asInt?
  refine wpAny_bind (wpAny_load hx (wpAny_pure ?_))
  refine wpAny_bind (wpAny_rule (wpAny_pure h))

end
end SpX

set_option Elab.async false
set_option linter.all false
set_option maxRecDepth 100000
set_option maxHeartbeats 4000000
namespace SpX
open PySem PySem.Spec PyProof.Rows L2
section
variable {X : Cx} {CX : CXT} {k : Nat} {f C : Addr} {fd : FuncData} {ps : List Str} {sp : Sp} {E : XK} {op : Operator}
/-- int's own method says nothing of an instance -/
def Declines (op : Operator) : Prop := ∀ (prog : Program) (w : World) (A : Around) (E' : Value → Shared → Prop) (s : Shared) (i : Int) (t : Tok) (x C dx : Addr) (Q : Option Value → Shared → Prop),
  s.heap.get? x = some (PySem.W.instObj C dx) → Q none s → wpAny (model prog w) A (tryMethod (.int i t) (PySem.dunder op.info.2) (.ref x)) Q E' s
theorem declines_of {op : Operator} {id nm : String} {g : Int → Int → Sem Fin} {B : Builtin} (slot : Slot "int" (PySem.dunder op.info.2) id) (entry : entryFor table id = some B) (hB : B = Builtin.Int.intBinary nm g false)
    (args : ∀ a b : Value, argsOk id ⟨[a, b], []⟩) (hsl : ∀ (i : Int) (t : Tok) (x : Addr), slotArgs nm 1 ⟨[.int i t, .ref x], []⟩ = pure (.int i t, [.ref x])) : Declines op := by
  intro prog w A E' s i t x C dx Q hx h
  unfold tryMethod
  refine wpAny_bind (wpAny_callSpecial?_slot (typeIs_int s i t) slot ?_)
  refine wpAny_call_entry slot (typeIs_int s i t) entry ?_ (args _ _)
  rw [hB]
  exact int_declines (hsl i t x) hx ⟨_, rfl, wpAny_pure h⟩
theorem gbin_add : ∃ g, Builtin.«int.__add__» = Builtin.Int.intBinary "__add__" g false := ⟨_, rfl⟩
theorem gslot_add (i : Int) (t : Tok) (x : Addr) : slotArgs "__add__" 1 ⟨[.int i t, .ref x], []⟩ = pure (.int i t, [.ref x]) := rfl
theorem decl_add : Declines .Add := by
  obtain ⟨g, hg⟩ := gbin_add
  refine declines_of (op := .Add) (id := "int.__add__") (nm := "__add__") (g := g) (B := Builtin.«int.__add__») ?_ ?_ ?_ ?_ ?_
  · exact slot_int_add
  · exact entry_int_add
  · exact hg
  · exact args_int_add
  · exact gslot_add
theorem gbin_sub : ∃ g, Builtin.«int.__sub__» = Builtin.Int.intBinary "__sub__" g false := ⟨_, rfl⟩
theorem gslot_sub (i : Int) (t : Tok) (x : Addr) : slotArgs "__sub__" 1 ⟨[.int i t, .ref x], []⟩ = pure (.int i t, [.ref x]) := rfl
theorem decl_sub : Declines .Sub := by
  obtain ⟨g, hg⟩ := gbin_sub
  refine declines_of (op := .Sub) (id := "int.__sub__") (nm := "__sub__") (g := g) (B := Builtin.«int.__sub__») ?_ ?_ ?_ ?_ ?_
  · exact slot_int_sub
  · exact entry_int_sub
  · exact hg
  · exact args_int_sub
  · exact gslot_sub
theorem gbin_mul : ∃ g, Builtin.«int.__mul__» = Builtin.Int.intBinary "__mul__" g false := ⟨_, rfl⟩
theorem gslot_mul (i : Int) (t : Tok) (x : Addr) : slotArgs "__mul__" 1 ⟨[.int i t, .ref x], []⟩ = pure (.int i t, [.ref x]) := rfl
theorem decl_mul : Declines .Mult := by
  obtain ⟨g, hg⟩ := gbin_mul
  refine declines_of (op := .Mult) (id := "int.__mul__") (nm := "__mul__") (g := g) (B := Builtin.«int.__mul__») ?_ ?_ ?_ ?_ ?_
  · exact slot_int_mul
  · exact entry_int_mul
  · exact hg
  · exact args_int_mul
  · exact gslot_mul
/-- what the text must say of the reflected method g -/
structure OwnRef (K : PySem.W.Frag) (C : Addr) (op : Operator) (g : Addr) : Prop where
  ex : ∃ f : Addr, PySem.W.findIn K (.ref C) (PySem.dunder op.info.2) = some (some (.ref f))
  hs : PySem.W.findIn K (.ref C) (dunderR op.info.2) = some (some (.ref g))
  hf : PySem.W.isFn K (.ref g) = true
  hc : PySem.W.selfFirst K C = true
  h1 : ∃ fo, PySem.W.findIn K (.type "int") (PySem.dunder op.info.2) = some fo ∧ (fo.isSome && !isSeqSlot fo) = true
  h2 : ∃ ro, PySem.W.findIn K (.type "int") (dunderR op.info.2) = some ro
  hsub : PySem.W.subIn K (.ref C) (.type "int") = some false
theorem binop_refl {prog : Program} {w : World} {A : Around} {E' : Value → Shared → Prop} {s : Shared} {K : PySem.W.Frag} {i : Int} {t : Tok} {x g : Addr} {dx : Addr} {od : Option Obj} {Q : Value → Shared → Prop} (X : K.In s.heap) (O : OwnRef K C op g) (D : Declines op)
    (hx : s.heap.get? x = some (PySem.W.instObj C dx)) (I : PySem.W.InstAt s.heap x (PySem.W.instObj C dx) C od)
    (h : wpAny (model prog w) A (call (.ref g) [.ref x, .int i t]) (PySem.W.CmpBack Q) E' s) : wpAny (model prog w) A (binaryOp op (.int i t) (.ref x)) Q E' s := by
  obtain ⟨cd, rest, hcd, hm⟩ := PySem.W.ksp_first O.hc
  obtain ⟨f, hs⟩ := O.ex
  obtain ⟨fo, h1, hfo⟩ := O.h1
  obtain ⟨ro, h2⟩ := O.h2
  have hsr := O.hs
  have one := PySem.W.ksp_try X I O.hs O.hf h
  have dec := D prog w A E' s i t x C dx
  rcases hi : op.info with ⟨sym, nm'⟩
  rw [hi] at hs h1 h2 hsr dec one
  dsimp only at hs h1 h2 hsr dec one
  obtain ⟨hh, g', d, tt, os⟩ := s
  have L1 : PySem.W.Looks (model prog w) hh (typeOf (.int i t)) (.type "int") := PySem.W.Looks.of_pure rfl
  have L2 : PySem.W.Looks (model prog w) hh (typeOf (.ref x)) (.ref C) := I.type
  have L3 : PySem.W.Looks (model prog w) hh (fillsNumberSlot (.type "int") nm') ((fo.isSome && !isSeqSlot fo) || (ro.isSome && !isSeqSlot ro)) := PySem.W.ksp_fillsT X h1 h2
  rw [hfo, Bool.true_or] at L3
  have L4 : PySem.W.Looks (model prog w) hh (fillsNumberSlot (.ref C) nm') true := PySem.W.fills_K X hcd hm hs
  have L5 : PySem.W.Looks (model prog w) hh (isSubtype (.ref C) (.type "int")) false := PySem.W.looks_subIn X O.hsub
  have L7 : PySem.W.Looks (model prog w) hh (numberSlotInPython (.type "int") nm') false := PySem.W.Looks.of_pure rfl
  have hne : (Value.type "int" == Value.ref C) = false := Bool.eq_false_iff.mpr fun q => by cases beq_iff_eq.mp q
  simp only [binaryOp, hi]
  refine wpAny_holding (wpAny_bind ?_)
  unfold binaryOp1
  refine wpAny_bind (L1.at (wpAny_bind (L2.at (wpAny_bind (L3.at ?_)))))
  simp only [hne, Bool.false_eq_true, if_false]
  refine wpAny_bind (L4.at ?_)
  simp only [Bool.and_self, if_true]
  refine wpAny_bind (L5.at ?_)
  simp only [Bool.false_eq_true, if_false]
  refine wpAny_bind (wpAny_pure ?_)
  simp only [Bool.not_false, Bool.and_self, if_true, Bool.false_eq_true, if_false]
  refine wpAny_bind (dec _ hx ?_)
  dsimp only
  refine wpAny_bind (wpAny_mono one (fun r s' hr' => ?_) fun _ _ e => e)
  obtain ⟨v, rfl, hq⟩ := hr'
  exact wpAny_bind (wpAny_rule (wpAny_pure (wpAny_pure hq)))
/-- int op instance -/
def rOwnR (C : Addr) (sp : Sp) (E : XK) : R2 := fun x y H Q => ∃ i a dx fs, x = .int i ∧ y = .ref a ∧ H a = some (.ins C dx fs) ∧ sp [.ref a, .int i] H Q E
theorem op_ownR (O : OwnRef X.K C op f) (Dc : Declines op) (F : FnOk X.prog X.w X.K X.mg X.base CX k f fd ps sp) (hr : Room k X.A) (hb : Binds X.K fd ps []) (hx : Passes CX X E) : OpR X (binaryOp op) (rOwnR C sp E) := by
  intro pins s σ H x y v u Q I rx ry h
  obtain ⟨i, a, dx, fs, rfl, rfl, ha, hsp⟩ := h
  obtain ⟨t, rfl⟩ := rx
  cases ry
  obtain ⟨mA, J, _⟩ := ins_get I.hok ha
  have hobj := J.obj
  obtain ⟨od, J, _⟩ := J.look
  refine binop_refl I.kIn O Dc hobj J ?_
  refine thn (run_fn (us := [.ref a, .int i t]) (vs := [.ref a, .int i]) (dvs := []) F hr hb .nil hx I (.cons rfl (.cons ⟨t, rfl⟩ .nil)) hsp) fun u s' q => ep_back q

/-! ### == by an own __eq__, whatever it answers -/
/-- what the text must say of the class's __eq__ -/
structure OwnEqF (K : PySem.W.Frag) (C f : Addr) : Prop where
  hs : PySem.W.findIn K (.ref C) "__eq__" = some (some (.ref f))
  hf : PySem.W.isFn K (.ref f) = true
  hi : PySem.W.subIn K (.type "int") (.ref C) = some false
  hci : PySem.W.subIn K (.ref C) (.type "int") = some false
theorem cmp_own2 (O : OwnEqF X.K C f) (F : FnOk X.prog X.w X.K X.mg X.base CX k f fd ps sp) (hr : Room k X.A) (hb : Binds X.K fd ps []) (hx : Passes CX X E) : OpR X (compareOp .Eq) (rOwn2 C sp E) := by
  intro pins s σ H x y v u Q I rx ry h
  obtain ⟨a, b, dx, dy, fs, gs, rfl, rfl, ha, hb', hsp⟩ := h
  cases rx
  cases ry
  obtain ⟨mA, J, _⟩ := ins_get I.hok ha
  obtain ⟨mB, J', _⟩ := ins_get I.hok hb'
  obtain ⟨od, J, _⟩ := J.look
  obtain ⟨od', J', _⟩ := J'.look
  obtain ⟨m, hF⟩ := I.fr
  show wpAny (model X.prog X.w) X.A (richCompare .Eq (.ref a) (.ref b)) (EP X pins σ Q) X.xe s
  refine PySem.W.cmp_K (op := .Eq) (tb := .ref C) hr.units0 hF I.ok.mod.kin J J'.type (by simp [PySem.W.notFirst]) O.hs O.hf ?_
  refine thn (run_fn (us := [.ref a, .ref b]) (vs := [.ref a, .ref b]) (dvs := []) F hr hb .nil hx I (.cons rfl (.cons rfl .nil)) hsp) fun u s' q => ep_back q
theorem cmp_ownI (O : OwnEqF X.K C f) (F : FnOk X.prog X.w X.K X.mg X.base CX k f fd ps sp) (hr : Room k X.A) (hb : Binds X.K fd ps []) (hx : Passes CX X E) : OpR X (compareOp .Eq) (rOwnI C sp E) := by
  intro pins s σ H x y v u Q I rx ry h
  obtain ⟨a, i, dx, fs, rfl, rfl, ha, hsp⟩ := h
  cases rx
  obtain ⟨t, rfl⟩ := ry
  obtain ⟨mA, J, _⟩ := ins_get I.hok ha
  obtain ⟨od, J, _⟩ := J.look
  obtain ⟨m, hF⟩ := I.fr
  show wpAny (model X.prog X.w) X.A (richCompare .Eq (.ref a) (.int i t)) (EP X pins σ Q) X.xe s
  refine PySem.W.cmp_K (op := .Eq) (tb := .type "int") hr.units0 hF I.ok.mod.kin J (PySem.W.Looks.of_pure rfl) (by unfold PySem.W.notFirst; rw [O.hi]; simp) O.hs O.hf ?_
  refine thn (run_fn (us := [.ref a, .int i t]) (vs := [.ref a, .int i]) (dvs := []) F hr hb .nil hx I (.cons rfl (.cons ⟨t, rfl⟩ .nil)) hsp) fun u s' q => ep_back q
/-- int == instance -/
theorem gcmp_eq (i : Int) (t : Tok) (x : Addr) : slotArgs "__eq__" 1 ⟨[.int i t, .ref x], []⟩ = pure (.int i t, [.ref x]) := rfl
theorem gbin_eq : ∃ g, Builtin.«int.__eq__» = Builtin.Int.intBinary "__eq__" g false := ⟨_, rfl⟩
theorem int_declinesC {prog : Program} {w : World} {A : Around} {E' : Value → Shared → Prop} {s : Shared} {i : Int} {t : Tok} {x C dx : Addr} {Q : Fin → Shared → Prop}
    (hsl : slotArgs "__eq__" 1 ⟨[.int i t, .ref x], []⟩ = pure (.int i t, [.ref x])) (hx : s.heap.get? x = some (PySem.W.instObj C dx)) (h : Q (.done (.ret .notImplemented)) s) :
    wpAny (model prog w) A (Builtin.«int.__eq__» ⟨[.int i t, .ref x], []⟩) Q E' s := by
  obtain ⟨g, hg⟩ := gbin_eq
  rw [hg]
  exact int_declines hsl hx h
theorem cmp_ownR (O : OwnEqF X.K C f) (F : FnOk X.prog X.w X.K X.mg X.base CX k f fd ps sp) (hr : Room k X.A) (hb : Binds X.K fd ps []) (hx : Passes CX X E) : OpR X (compareOp .Eq) (rOwnR C sp E) := by
  intro pins s σ H x y v u Q I rx ry h
  obtain ⟨i, a, dx, fs, rfl, rfl, ha, hsp⟩ := h
  obtain ⟨t, rfl⟩ := rx
  cases ry
  obtain ⟨mA, J, _⟩ := ins_get I.hok ha
  have hobj := J.obj
  obtain ⟨od, J, _⟩ := J.look
  have kin := I.kIn
  have one : wpAny (model X.prog X.w) X.A (tryCompare (.ref a) "__eq__" (.int i t)) (fun r s' => ∃ v, r = some v ∧ EP X pins σ Q v s') X.xe s := by
    unfold tryCompare
    refine wpAny_bind (PySem.W.ifBound_K kin J O.hs O.hf (wpAny_mono (run_fn (us := [.ref a, .int i t]) (vs := [.ref a, .int i]) (dvs := []) F hr hb .nil hx I (.cons rfl (.cons ⟨t, rfl⟩ .nil)) hsp) (fun v s' hv => ?_) fun _ _ e => e))
    have hv' := ep_back hv
    cases v <;> first | exact hv'.elim | exact wpAny_pure ⟨_, rfl, hv⟩
  show wpAny (model X.prog X.w) X.A (richCompare .Eq (.int i t) (.ref a)) (EP X pins σ Q) X.xe s
  unfold richCompare
  refine wpAny_holding (wpAny_bind (wpAny_cRoomFor hr.units0 ?_))
  rw [show oneThing? CmpOp.Eq (Value.int i t) (Value.ref a) = none from rfl]
  dsimp only [cmpInfo]
  have L1 : PySem.W.Looks (model X.prog X.w) s.heap (typeOf (.int i t)) (.type "int") := PySem.W.Looks.of_pure rfl
  refine wpAny_bind (L1.here (wpAny_bind (J.type.here ?_)))
  rw [if_pos (show (Value.type "int" != Value.ref C) = true from rfl)]
  refine wpAny_bind ((PySem.W.looks_subIn kin O.hci).here ?_)
  simp only [Bool.false_eq_true, if_false]
  refine wpAny_bind (m := tryCompare (.int i t) _ (.ref a)) ?_
  unfold tryCompare
  refine wpAny_bind (m := callSpecialIfBound? (.int i t) _ _) (wpAny_callSpecialIfBound?_slot (typeIs_int s i t) slot_int_eq ?_)
  refine wpAny_call_entry slot_int_eq (typeIs_int s i t) entry_int_eq ?_ (args_int_eq _ _)
  refine int_declinesC (gcmp_eq i t a) hobj ⟨_, rfl, ?_⟩
  refine wpAny_pure ?_
  rw [if_pos (show (!false) = true from rfl)]
  refine wpAny_bind (wpAny_mono one (fun r s' hr' => ?_) fun _ _ e => e)
  obtain ⟨v, rfl, hq⟩ := hr'
  exact wpAny_pure hq
end
end SpX

set_option Elab.async false
set_option linter.all false
set_option maxRecDepth 100000
set_option maxHeartbeats 2000000
/-! Readings of built-ins by short names; what stays of a heap. -/
namespace SpX
open PySem PySem.Spec L2
def rLen1 (K : PySem.W.Frag) : List V → Hp → VK → Prop := fun xs H Q => ∃ p ys, xs = [.ref p] ∧ (SqL K H p ys ∨ SqT K H p ys) ∧ Q (.int ys.length) H
def rList1 (K : PySem.W.Frag) : List V → Hp → VK → Prop := fun xs H Q => ∃ p ys, xs = [.ref p] ∧ (SqL K H p ys ∨ SqT K H p ys) ∧ ∀ l, H l = none → Q (.ref l) (upd H l (.lst ys))
def rInt1 : List V → Hp → VK → Prop := fun xs H Q => (∃ i, xs = [.int i] ∧ Q (.int i) H) ∨ ∃ k, xs = [.bl k] ∧ Q (.int (if k then 1 else 0)) H
def rBool1 : List V → Hp → VK → Prop := fun xs H Q => (∃ i, xs = [.int i] ∧ Q (.bl (i != 0)) H) ∨ ∃ k, xs = [.bl k] ∧ Q (.bl k) H
def rAbs1 : List V → Hp → VK → Prop := fun xs H Q => ∃ i, xs = [.int i] ∧ Q (.int (if i < 0 then -i else i)) H
def rMax2 : List V → Hp → VK → Prop := fun xs H Q => ∃ i j, xs = [.int i, .int j] ∧ Q (.int (if j > i then j else i)) H
def rMin2 : List V → Hp → VK → Prop := fun xs H Q => ∃ i j, xs = [.int i, .int j] ∧ Q (.int (if j < i then j else i)) H
section
variable {D : Ends} {σ : L2.St} {H : Hp} {Q : VK} {a b : Int}
theorem x_int1 : rInt1 [.int a] H Q = Q (.int a) H := by
  unfold rInt1
  simp
theorem x_abs1 : rAbs1 [.int a] H Q = Q (.int (if a < 0 then -a else a)) H := by
  unfold rAbs1
  simp
theorem x_max2 : rMax2 [.int a, .int b] H Q = Q (.int (if b > a then b else a)) H := by
  exact propext ⟨fun ⟨_, _, e, q⟩ => by cases e; exact q, fun q => ⟨_, _, rfl, q⟩⟩
theorem x_gcd : rGcd [.int a, .int b] H Q = Q (.int ((Nat.gcd a.natAbs b.natAbs : Nat) : Int)) H := by
  exact propext ⟨fun ⟨_, _, e, q⟩ => by cases e; exact q, fun q => ⟨_, _, rfl, q⟩⟩
end
section
variable {X : Cx}
theorem op_mulI : OpR X (binaryOp .Mult) (rI IntMulOk fun i j => .int (i * j)) := opI fun _ _ _ _ _ _ _ hc q => PyProof.Rows.mul_int q hc
end
theorem mul_lit {i j : Int} (h : -(2 ^ 64) < j ∧ j < 2 ^ 64) : IntMulOk i j := CMul.ok (.inr h)
theorem mul_lit' {i j : Int} (h : -(2 ^ 64) < i ∧ i < 2 ^ 64) : IntMulOk i j := CMul.ok (.inl h)
theorem mul_wide {i j : Int} {a b : Nat} (ha : i.natAbs < 2 ^ a) (hb : j.natAbs < 2 ^ b) (h0 : 0 < a) (h1 : 0 < b) (h : a + b ≤ 1000000) : IntMulOk i j := (wide_mul ha hb h0 h1 h).ok
/-! ### tracked lists and tuples alone: the readings are equations -/
def rIx1 : R2 := fun x y H Q => ∃ p xs i v, x = .ref p ∧ y = .int i ∧ (H p = some (.lst xs) ∨ H p = some (.tup xs)) ∧ atI xs i = some v ∧ Q v H
def rLenA : List V → Hp → VK → Prop := fun vs H Q => ∃ p xs, vs = [.ref p] ∧ (H p = some (.lst xs) ∨ H p = some (.tup xs)) ∧ Q (.int xs.length) H
def rListA : List V → Hp → VK → Prop := fun vs H Q => ∃ p xs, vs = [.ref p] ∧ (H p = some (.lst xs) ∨ H p = some (.tup xs)) ∧ ∀ l, H l = none → Q (.ref l) (upd H l (.lst xs))
def rSlA : V → Option Int → Option Int → Hp → VK → Prop := fun x lo hi H Q => ∃ p xs, x = .ref p ∧ H p = some (.lst xs) ∧ ∀ q, H q = none → Q (.ref q) (upd H q (.lst (cutV xs lo hi)))
section
variable {X : Cx}
theorem ix_1 : IxR X rIx1 := by
  intro value slice pins s σ H x y v u Q I rx ry h hs
  obtain ⟨p, xs, i, w, rfl, rfl, h1 | h1, h2, q⟩ := h
  · exact ix_list value slice pins s σ H _ _ v u Q I rx ry ⟨p, xs, i, w, rfl, rfl, .inl (.inl h1), h2, q⟩ hs
  · exact ix_tup value slice pins s σ H _ _ v u Q I rx ry ⟨p, xs, i, w, rfl, rfl, .inl (.inl h1), h2, q⟩ hs
theorem call_lenA : CallR X (.builtin "len") rLenA := by
  intro pins s σ H xs us Q I r h
  obtain ⟨p, ys, rfl, h1 | h1, q⟩ := h
  · exact call_len_seq pins s σ H _ us Q I r ⟨p, ys, rfl, .inl (.inl (.inl h1)), q⟩
  · exact call_len_seq pins s σ H _ us Q I r ⟨p, ys, rfl, .inr (.inl (.inl h1)), q⟩
theorem call_listA : CallR X (.type "list") rListA := by
  intro pins s σ H xs us Q I r h
  obtain ⟨p, ys, rfl, h1 | h1, q⟩ := h
  · exact call_list_of pins s σ H _ us Q I r ⟨p, ys, rfl, .inl (.inl (.inl h1)), q⟩
  · exact call_list_of pins s σ H _ us Q I r ⟨p, ys, rfl, .inr (.inl (.inl h1)), q⟩
theorem sl_A : SlR X rSlA := by
  intro pins s σ H x v vl vu lo hi sl Q I rx rs rl rh h
  obtain ⟨p, ys, rfl, h1, q⟩ := h
  exact sl_list pins s σ H _ v vl vu lo hi sl Q I rx rs rl rh ⟨p, ys, rfl, .inl (.inl h1), q⟩
end
section
variable {σ : L2.St} {H : Hp} {Q : VK} {p : Addr} {xs ys : List V} {i : Int} {v : V}
theorem x_ix (h : H p = some (.lst xs)) (ha : atI xs i = some v) : rIx1 (.ref p) (.int i) H Q = Q v H := propext (Iff.intro
  (fun ⟨_, _, _, _, e1, e2, h1, h2, q⟩ => by
    cases e1; cases e2
    rw [h] at h1
    rcases h1 with h1 | h1
    · cases h1
      rw [ha] at h2
      cases h2
      exact q
    · cases h1)
  (fun q => ⟨_, _, _, _, rfl, rfl, .inl h, ha, q⟩))

theorem x_ixT (h : H p = some (.tup xs)) (ha : atI xs i = some v) : rIx1 (.ref p) (.int i) H Q = Q v H := propext (Iff.intro
  (fun ⟨_, _, _, _, e1, e2, h1, h2, q⟩ => by
    cases e1; cases e2
    rw [h] at h1
    rcases h1 with h1 | h1
    · cases h1
    · cases h1
      rw [ha] at h2
      cases h2
      exact q)
  (fun q => ⟨_, _, _, _, rfl, rfl, .inr h, ha, q⟩))

theorem x_lenA (h : H p = some (.lst xs)) : rLenA [.ref p] H Q = Q (.int xs.length) H := propext (Iff.intro
  (fun ⟨_, _, e1, h1, q⟩ => by
    cases e1
    rw [h] at h1
    rcases h1 with h1 | h1
    · cases h1
      exact q
    · cases h1)
  (fun q => ⟨_, _, rfl, .inl h, q⟩))

theorem x_listA (h : H p = some (.lst xs)) : rListA [.ref p] H Q = ∀ l, H l = none → Q (.ref l) (upd H l (.lst xs)) := propext (Iff.intro
  (fun ⟨_, _, e1, h1, q⟩ => by
    cases e1
    rw [h] at h1
    rcases h1 with h1 | h1
    · cases h1
      exact q
    · cases h1)
  (fun q => ⟨_, _, rfl, .inl h, q⟩))

theorem x_slA {lo hi : Option Int} (h : H p = some (.lst xs)) : rSlA (.ref p) lo hi H Q = ∀ q, H q = none → Q (.ref q) (upd H q (.lst (cutV xs lo hi))) := propext (Iff.intro
  (fun ⟨_, _, e1, h1, q⟩ => by
    cases e1
    rw [h] at h1
    cases h1
    exact q)
  (fun q => ⟨_, _, rfl, h, q⟩))

theorem x_setL {k : Int} {j : Nat} {QQ : Hp → Prop} (h : H p = some (.lst xs)) (hj : ixN xs.length k = some j) : rSetL (.ref p) (.int k) v H QQ = QQ (upd H p (.lst (xs.set j v))) := propext (Iff.intro
  (fun ⟨_, _, _, _, e1, e2, h1, h2, q⟩ => by
    cases e1; cases e2
    rw [h] at h1
    cases h1
    rw [hj] at h2
    cases h2
    exact q)
  (fun q => ⟨_, _, _, _, rfl, rfl, h, hj, q⟩))

theorem x_cat {q : Addr} (h : H p = some (.lst xs)) (h' : H q = some (.lst ys)) (hz : xs.length + ys.length ≤ sizeLine) : rCat (.ref p) (.ref q) H Q = ∀ l, H l = none → Q (.ref l) (upd H l (.lst (xs ++ ys))) := propext (Iff.intro
  (fun ⟨_, _, _, _, e1, e2, h1, h2, _, q⟩ => by
    cases e1; cases e2
    rw [h] at h1
    rw [h'] at h2
    cases h1; cases h2
    exact q)
  (fun q => ⟨_, _, _, _, rfl, rfl, h, h', hz, q⟩))

theorem x_tbm {T : String} {K : PySem.W.Frag} {r : V → List V → Hp → VK → Prop} {to : TE} {t : TA} : tBM K T r to t σ H Q = to σ H (fun x H1 => tyV K T x H1 ∧ t σ H1 fun xs H2 => r x xs H2 Q) := rfl
theorem x_append (h : H p = some (.lst xs)) (hz : xs.length < sizeLine) : rAppend (.ref p) [v] H Q = Q .non (upd H p (.lst (xs ++ [v]))) := propext (Iff.intro
  (fun ⟨_, _, _, e1, e2, h1, _, q⟩ => by
    cases e1; cases e2
    rw [h] at h1
    cases h1
    exact q)
  (fun q => ⟨_, _, _, rfl, rfl, h, hz, q⟩))

end
theorem ty_lst {K : PySem.W.Frag} {H : Hp} {p : Addr} {xs : List V} (h : H p = some (.lst xs)) : tyV K "list" (.ref p) H := .inl ⟨rfl, _, .inl (.inl h)⟩
/-- all that was tracked, but for what stands at p, is as it was -/
def Keep (p : Addr) (H H' : Hp) : Prop := ∀ b o, b ≠ p → H b = some o → H' b = some o
theorem Keep.refl (p : Addr) (H : Hp) : Keep p H H := fun _ _ _ h => h
theorem Keep.trans {p : Addr} {H H1 H2 : Hp} (a : Keep p H H1) (b : Keep p H1 H2) : Keep p H H2 := fun c o n h => b c o n (a c o n h)
theorem Keep.of {p : Addr} {H H1 : Hp} (a : Same H H1) : Keep p H H1 := fun c o _ h => a c o h
theorem Same.new {H : Hp} {p : Addr} {o : HO} (h : H p = none) : Same H (upd H p o) := fun a u e => by
  rw [upd_ne (ne_of_none e h)]
  exact e
theorem Same.new' {H H1 : Hp} {p : Addr} {o : HO} (s : Same H H1) (h : H1 p = none) : Same H (upd H1 p o) := s.trans (Same.new h)
theorem Keep.new {q : Addr} {H H1 : Hp} {p : Addr} {o : HO} (s : Keep q H H1) (h : H1 p = none) : Keep q H (upd H1 p o) := s.trans (Keep.of (Same.new h))
theorem Keep.at {q : Addr} {H H1 : Hp} {o : HO} (s : Keep q H H1) : Keep q H (upd H1 q o) := fun c u n h => by
  rw [upd_ne n]
  exact s c u n h
/-- two tracked things of unlike kinds -/
theorem lst_tup {H : Hp} {a b : Addr} {xs ys : List V} (h : H a = some (.lst xs)) (h' : H b = some (.tup ys)) : b ≠ a := fun e => by
  subst e
  rw [h] at h'
  cases h'
theorem atI_0 {v : V} {xs : List V} : atI (v :: xs) 0 = some v := by
  show atI (v :: xs) ((0 : Nat) : Int) = some v
  exact atI_nat rfl
theorem sl5 {n : Nat} (h : n ≤ 1000) : n ≤ sizeLine := Nat.le_trans h (by decide)
end SpX

set_option Elab.async false
set_option linter.all false
set_option maxRecDepth 100000
set_option maxHeartbeats 2000000
/-! Ratios: how one stands on the heap, what a def promises of it. -/
namespace SpX
open PySem PySem.Spec L2
abbrev RF (t b : Int) : List (Str × V) := [("top", .int t), ("bottom", .int b)]
/-- a ratio t / b stands at p -/
def RatAt (C : Addr) (H : Hp) (p : Addr) (t b : Int) : Prop := ∃ dx, H p = some (.ins C dx (RF t b))
theorem RatAt.same {C : Addr} {H H' : Hp} {p : Addr} {t b : Int} (h : RatAt C H p t b) (s : Same H H') : RatAt C H' p t b := by
  obtain ⟨dx, e⟩ := h
  exact ⟨dx, s _ _ e⟩
/-- isinstance of an int or of a ratio -/
inductive IsA (C : Addr) (H : Hp) : List V → Bool → Prop where
  | ii (i : Int) : IsA C H [.int i, .ty "int"] true
  | ic (i : Int) : IsA C H [.int i, .ref C] false
  | ri {p dx : Addr} {fs : List (Str × V)} (h : H p = some (.ins C dx fs)) : IsA C H [.ref p, .ty "int"] false
  | rc {p dx : Addr} {fs : List (Str × V)} (h : H p = some (.ins C dx fs)) : IsA C H [.ref p, .ref C] true
def rIsA (C : Addr) : List V → Hp → VK → Prop := fun xs H Q => ∃ b, IsA C H xs b ∧ Q (.bl b) H
structure IsaOk (K : PySem.W.Frag) (C : Addr) : Prop where
  cl : Cls K C
  ha : PySem.W.findIn K (.ref C) "__class__" = some (some (.builtin "object.__class__"))
  hn : PySem.W.specialIn K (.builtin "object.__class__") "__get__" = some (some (.builtin "getset_descriptor.__get__"))
  ht : PySem.W.takesIn K (.builtin "object.__class__") = some true
  hm : PySem.W.mroIn K C (.type "object") = some true
  k0 : PySem.W.kitOne K (.ref C) (.type "int") = some false
  k1 : PySem.W.kitOne K (.type "int") (.ref C) = some false
theorem kit_self {K : PySem.W.Frag} {C : Addr} : PySem.W.kitOne K (.ref C) (.ref C) = some true := by
  unfold PySem.W.kitOne
  rw [if_pos (beq_self_eq_true _)]
theorem call_isA {X : Cx} {C : Addr} (T : IsaOk X.K C) : CallR X (.builtin "isinstance") (rIsA C) := by
  intro pins s σ H xs us Q I r h
  obtain ⟨b, h, q⟩ := h
  cases h with
  | ii i => exact call_isi pins s σ H _ us Q I r ⟨_, _, _, _, _, rfl, .ty _, .base (.int _), kit_ty (by decide +kernel), q⟩
  | ic i => exact call_isi pins s σ H _ us Q I r ⟨_, _, _, _, _, rfl, .own _, .base (.int _), T.k1, q⟩
  | ri e => exact call_isi pins s σ H _ us Q I r ⟨_, _, _, _, _, rfl, .ty _, .base (.ins e T.cl T.ha T.hn T.ht T.hm), T.k0, q⟩
  | rc e => exact call_isi pins s σ H _ us Q I r ⟨_, _, _, _, _, rfl, .own _, .base (.ins e T.cl T.ha T.hn T.ht T.hm), kit_self, q⟩
/-- e.f of an instance of C -/
def rFld (C : Addr) (f : Str) : V → Hp → VK → Prop := fun x H Q => ∃ a dx fs v, x = .ref a ∧ H a = some (.ins C dx fs) ∧ fs.lookup f = some v ∧ Q v H
theorem pe_fldA {X : Cx} {C : Addr} {e : Expr} {f : Str} {pos : Pos} {ta : TE} (he : PE X e ta) (c : Cls X.K C) (n : NoAttr X.K C f) (hb : attributeBase e f X.env (eval e X.env) = eval e X.env) : PE X (.Attribute e f pos) (tUn (rFld C f) ta) := by
  refine ⟨fun pins s σ H Q I h => ?_⟩
  refine attr_of hb (thn (he.run pins s σ H _ I h) fun u s1 hh => ?_)
  obtain ⟨x, H1, I1, rx, a, dx, fs, v, ex, ea, l, q⟩ := hh
  subst ex
  obtain rfl : u = Value.ref a := rx
  exact getattr_ok I1 ea c n l fun u' s2 I2 ru => ⟨v, H1, I2, ru, q⟩
section
variable {D : Ends} {σ : L2.St} {H : Hp} {Q : VK} {C p q dx dy : Addr} {t b u c i : Int} {sp : Sp} {E : XK} {ta tb : TE} {f : Str}
theorem x_top (h : H p = some (.ins C dx (RF t b))) : rFld C "top" (.ref p) H Q = Q (.int t) H := propext (Iff.intro
  (fun ⟨_, _, _, _, e1, h1, h2, q⟩ => by
    cases e1
    rw [h] at h1
    cases h1
    cases h2
    exact q)
  (fun q => ⟨_, _, _, _, rfl, h, rfl, q⟩))
theorem bottom_ne : (("bottom" : Str) == "top") = false := by decide +kernel
theorem look_bottom : List.lookup ("bottom" : Str) (RF t b) = some (.int b) := by
  simp only [RF, List.lookup, bottom_ne, beq_self_eq_true]
theorem x_bot (h : H p = some (.ins C dx (RF t b))) : rFld C "bottom" (.ref p) H Q = Q (.int b) H := propext (Iff.intro
  (fun ⟨_, _, _, _, e1, h1, h2, q⟩ => by
    cases e1
    rw [h] at h1
    cases h1
    rw [look_bottom] at h2
    cases h2
    exact q)
  (fun q => ⟨_, _, _, _, rfl, h, look_bottom, q⟩))
theorem x_isII : rIsA C [.int i, .ty "int"] H Q = Q (.bl true) H := propext (Iff.intro (fun ⟨_, h, q⟩ => by cases h; exact q) fun q => ⟨_, .ii _, q⟩)
theorem x_isIC : rIsA C [.int i, .ref C] H Q = Q (.bl false) H := propext (Iff.intro (fun ⟨_, h, q⟩ => by cases h; exact q) fun q => ⟨_, .ic _, q⟩)
theorem x_isRI {fs : List (Str × V)} (h : H p = some (.ins C dx fs)) : rIsA C [.ref p, .ty "int"] H Q = Q (.bl false) H := propext (Iff.intro (fun ⟨_, h, q⟩ => by cases h; exact q) fun q => ⟨_, .ri h, q⟩)
theorem x_isRC {fs : List (Str × V)} (h : H p = some (.ins C dx fs)) : rIsA C [.ref p, .ref C] H Q = Q (.bl true) H := propext (Iff.intro (fun ⟨_, h, q⟩ => by cases h; exact q) fun q => ⟨_, .rc h, q⟩)
theorem x_make {dvs : List V} {t : TA} : tMake C sp dvs E t σ H Q = t σ H (fun vs H1 => ∀ x dx, H1 x = none → H1 dx = none → dx ≠ x →
  sp (.ref x :: (vs ++ dvs)) (upd (upd H1 dx (.own x)) x (.ins C dx [])) (fun v H2 => v = .non ∧ Q (.ref x) H2) E) := rfl
theorem x_own2 {fs gs : List (Str × V)} (h : H p = some (.ins C dx fs)) (h' : H q = some (.ins C dy gs)) : rOwn2 C sp E (.ref p) (.ref q) H Q = sp [.ref p, .ref q] H Q E := propext (Iff.intro
  (fun ⟨_, _, _, _, _, _, e1, e2, _, _, q⟩ => by cases e1; cases e2; exact q) (fun q => ⟨_, _, _, _, _, _, rfl, rfl, h, h', q⟩))
theorem x_ownI {fs : List (Str × V)} (h : H p = some (.ins C dx fs)) : rOwnI C sp E (.ref p) (.int i) H Q = sp [.ref p, .int i] H Q E := propext (Iff.intro
  (fun ⟨_, _, _, _, e1, e2, _, q⟩ => by cases e1; cases e2; exact q) (fun q => ⟨_, _, _, _, rfl, rfl, h, q⟩))
theorem x_ownR {fs : List (Str × V)} (h : H p = some (.ins C dx fs)) : rOwnR C sp E (.int i) (.ref p) H Q = sp [.ref p, .int i] H Q E := propext (Iff.intro
  (fun ⟨_, _, _, _, e1, e2, _, q⟩ => by cases e1; cases e2; exact q) (fun q => ⟨_, _, _, _, rfl, rfl, h, q⟩))
theorem x_ownU {fs : List (Str × V)} (h : H p = some (.ins C dx fs)) : rOwnU C sp E (.ref p) H Q = sp [.ref p] H Q E := propext (Iff.intro
  (fun ⟨_, _, _, e1, _, q⟩ => by cases e1; exact q) (fun q => ⟨_, _, _, rfl, h, q⟩))
theorem x_ownAbs {fs : List (Str × V)} (h : H p = some (.ins C dx fs)) : rOwnAbs C sp E [.ref p] H Q = sp [.ref p] H Q E := propext (Iff.intro
  (fun ⟨_, _, _, e1, _, q⟩ => by cases e1; exact q) (fun q => ⟨_, _, _, rfl, h, q⟩))
theorem x_ownBool {fs : List (Str × V)} (h : H p = some (.ins C dx fs)) : rOwnBool C sp E [.ref p] H Q = sp [.ref p] H (fun v H' => ∃ b, v = .bl b ∧ Q (.bl b) H') E := propext (Iff.intro
  (fun ⟨_, _, _, e1, _, q⟩ => by cases e1; exact q) (fun q => ⟨_, _, _, rfl, h, q⟩))
theorem x_meth {m : Str} {dvs : List V} {t : TA} : tMeth C m sp dvs E ta t σ H Q = ta σ H (fun x H1 => ∃ a dx fs, x = .ref a ∧ H1 a = some (.ins C dx fs) ∧ fs.lookup m = none ∧ t σ H1 fun vs H2 => sp (x :: (vs ++ dvs)) H2 Q E) := rfl
theorem x_bool1 : rBool1 [.int i] H Q = Q (.bl (i != 0)) H := by
  unfold rBool1
  simp
end
/-! ### numbers in their lowest terms -/
/-- t / b is x / y in lowest terms -/
structure Norm (t b x y : Int) : Prop where
  pos : 0 < b
  eq : t * y = x * b
  cop : Nat.gcd t.natAbs b.natAbs = 1
theorem Norm.cross {t b x y x' y' : Int} (h : Norm t b x y) (hy : y ≠ 0) (e : x * y' = x' * y) : Norm t b x' y' := by
  refine ⟨h.pos, ?_, h.cop⟩
  have h1 := h.eq
  refine Int.eq_of_mul_eq_mul_right hy ?_
  calc t * y' * y = (t * y) * y' := by rw [Int.mul_assoc, Int.mul_comm y' y, Int.mul_assoc]
    _ = (x * b) * y' := by rw [h1]
    _ = (x * y') * b := by rw [Int.mul_assoc, Int.mul_comm b y', Int.mul_assoc]
    _ = (x' * y) * b := by rw [e]
    _ = x' * b * y := by rw [Int.mul_assoc, Int.mul_comm y b, Int.mul_assoc]
theorem Norm.le {t b x y : Int} (h : Norm t b x y) (hy : y ≠ 0) : t.natAbs ≤ x.natAbs ∧ b.natAbs ≤ y.natAbs := by
  have e : t.natAbs * y.natAbs = x.natAbs * b.natAbs := by
    rw [← Int.natAbs_mul, ← Int.natAbs_mul, h.eq]
  have c : Nat.Coprime t.natAbs b.natAbs := h.cop
  have hy' : 0 < y.natAbs := by omega
  constructor
  · have d : t.natAbs ∣ x.natAbs * b.natAbs := ⟨_, e.symm⟩
    have d' := Nat.Coprime.dvd_of_dvd_mul_right c d
    by_cases hx : x.natAbs = 0
    · rw [hx, Nat.zero_mul] at e
      have := Nat.mul_eq_zero.mp e
      omega
    · exact Nat.le_of_dvd (by omega) d'
  · have d : b.natAbs ∣ t.natAbs * y.natAbs := ⟨_, by rw [e, Nat.mul_comm]⟩
    exact Nat.le_of_dvd hy' (Nat.Coprime.dvd_of_dvd_mul_left c.symm d)
/-- what the constructor stores is in lowest terms: g the common divisor with the sign of y -/
theorem norm_mk {x y g : Int} (hy : y ≠ 0) (hg : g = (if y < 0 then -((Nat.gcd x.natAbs y.natAbs : Nat) : Int) else ((Nat.gcd x.natAbs y.natAbs : Nat) : Int))) : g ≠ 0 ∧ g.natAbs = Nat.gcd x.natAbs y.natAbs ∧ Norm (x.fdiv g) (y.fdiv g) x y := by
  have hG : 0 < Nat.gcd x.natAbs y.natAbs := Nat.gcd_pos_of_pos_right _ (by omega)
  have dx : ((Nat.gcd x.natAbs y.natAbs : Nat) : Int) ∣ x := Int.ofNat_dvd_left.mpr (Nat.gcd_dvd_left _ _)
  have dy : ((Nat.gcd x.natAbs y.natAbs : Nat) : Int) ∣ y := Int.ofNat_dvd_left.mpr (Nat.gcd_dvd_right _ _)
  generalize hn : Nat.gcd x.natAbs y.natAbs = n at hg hG dx dy
  have gn : g ≠ 0 := by subst hg; split <;> omega
  have ga : g.natAbs = n := by subst hg; split <;> omega
  have gx : g ∣ x := by
    subst hg
    split
    · exact Int.neg_dvd.mpr dx
    · exact dx
  have gy : g ∣ y := by
    subst hg
    split
    · exact Int.neg_dvd.mpr dy
    · exact dy
  obtain ⟨a, rfl⟩ := gx
  obtain ⟨c, rfl⟩ := gy
  refine ⟨gn, ga, ?_⟩
  rw [Int.mul_fdiv_cancel_left _ gn, Int.mul_fdiv_cancel_left _ gn]
  refine ⟨?_, ?_, ?_⟩
  · rw [Int.lt_iff_le_and_ne]
    by_cases hneg : g * c < 0
    · rw [if_pos hneg] at hg
      have : g < 0 := by omega
      have hc : 0 < c := Int.pos_of_mul_neg_left (by rw [Int.mul_comm]; exact hneg) this
      exact ⟨by omega, by omega⟩
    · rw [if_neg hneg] at hg
      have : 0 < g := by omega
      have hc : 0 ≤ c := Int.nonneg_of_mul_nonneg_right (by omega) this
      have : c ≠ 0 := fun e => hy (by rw [e, Int.mul_zero])
      exact ⟨by omega, by omega⟩
  · rw [← Int.mul_assoc, Int.mul_comm a g]
  · rw [Int.natAbs_mul, Int.natAbs_mul, Nat.gcd_mul_left, ga] at hn
    have h2 : n * Nat.gcd a.natAbs c.natAbs = n * 1 := by rw [hn, Nat.mul_one]
    exact Nat.eq_of_mul_eq_mul_left hG h2
end SpX

set_option Elab.async false
set_option linter.all false
set_option maxRecDepth 100000
set_option maxHeartbeats 4000000
/-! What the laws draw: the pool, an int below a bound, the greatest common divisor. -/
namespace SpX
open PySem PySem.Spec L2
def t_pool (K : PySem.W.Frag) : TS :=
    (tSeq (tAsg (tLst tNil) (gName 1))
    (tSeq (tAsg (tLst tNil) (gName 2))
    (tSeq (tFor (iList K (tVar 0)) (gName 3) ((tIfS (tTest (tOp (rI0 fun i j => .bl (decide (j ≤ i))) (tCB rAbs1 (tCons (tCB rInt1 (tCons (tVar 3) tNil)) tNil)) (tOp (rI CPow fun i j => .int (i ^ j.toNat)) (tC (.int 10)) (tC (.int 18))))) (tDrop (tBM K "list" rAppend (tVar 1) (tCons (tCB rAbs1 (tCons (tCB rInt1 (tCons (tVar 3) tNil)) tNil)) tNil))) (tDrop (tBM K "list" rAppend (tVar 2) (tCons (tCB rAbs1 (tCons (tCB rInt1 (tCons (tVar 3) tNil)) tNil)) tNil))))))
    (tSeq (tIfS (tTest (tOp rEq (tCB rLenA (tCons (tVar 2) tNil)) (tC (.int 0)))) (tDrop (tBM K "list" rAppend (tVar 2) (tCons (tCB rLenA (tCons (tVar 1) tNil)) tNil))) tNext)
    (tRet (tLst (tCons (tVar 1) (tCons (tVar 2) (tCons (tC (.int 0)) tNil)))))))))
def t_take (K : PySem.W.Frag) : TS :=
    (tSeq (tIfS (tTest (tOp (rI0 fun i j => .bl (decide (i < j))) (tVar 1) (tC (.int 2)))) (tRet (tC (.int 0))) tNext)
    (tSeq (tIfS (tTest (tOp (rI0 fun i j => .bl (decide (j < i))) (tCB rLenA (tCons (tOp rIx1 (tVar 0) (tC (.int 0))) tNil)) (tC (.int 0)))) (tSeq (tAsg (tOp rIx1 (tOp rIx1 (tVar 0) (tC (.int 0))) (tC (.int 0))) (gName 5))
    (tSeq (tAsg (tCB rListA (tCons (tSl rSlA (tOp rIx1 (tVar 0) (tC (.int 0))) (tPart (tC (.int 1))) tNoPart) tNil)) (gName 6))
    (tSeq (tIfS (tTest (tOp (rI0 fun i j => .bl (decide (j < i))) (tOp (rI CDivF fun i j => .int (i.fdiv j)) (tVar 5) (tVar 1)) (tC (.int 0)))) (tAsg (tOp rCat (tLst (tCons (tOp (rI CDivF fun i j => .int (i.fdiv j)) (tVar 5) (tVar 1)) tNil)) (tVar 6)) (gName 6)) tNext)
    (tSeq (tAsg (tVar 6) (gSub (tVar 0) (tC (.int 0)) rSetL))
    (tRet (tOp (rI (fun _ j => 0 < j) fun i j => .int (i % j)) (tCB rInt1 (tCons (tVar 5) tNil)) (tVar 1))))))) tNext)
    (tSeq (tAsg (tOp rIx1 (tVar 0) (tC (.int 2))) (gName 2))
    (tSeq (tAsg (tOp (rI0 fun i j => .int (i + j)) (tVar 2) (tC (.int 1))) (gSub (tVar 0) (tC (.int 2)) rSetL))
    (tSeq (tAsg (tOp rIx1 (tOp rIx1 (tVar 0) (tC (.int 1))) (tOp (rI (fun _ j => 0 < j) fun i j => .int (i % j)) (tCB rInt1 (tCons (tOp (rI CDivF fun i j => .int (i.fdiv j)) (tVar 2) (tC (.int 4))) tNil)) (tCB rLenA (tCons (tOp rIx1 (tVar 0) (tC (.int 1))) tNil)))) (gName 3))
    (tSeq (tAsg (tOp (rI (fun _ j => 0 < j) fun i j => .int (i % j)) (tCB rInt1 (tCons (tOp (rI0 fun i j => .int (i + j)) (tOp (rI0 fun i j => .int (i + j)) (tOp (rI IntMulOk fun i j => .int (i * j)) (tVar 3) (tC (.int 48271))) (tOp (rI IntMulOk fun i j => .int (i * j)) (tVar 2) (tC (.int 69621)))) (tC (.int 12345))) tNil)) (tC (.int 2147483647))) (gName 4))
    (tSeq (tAsg (tOp (rI (fun _ j => 0 < j) fun i j => .int (i % j)) (tCB rInt1 (tCons (tOp (rI0 fun i j => .int (i + j)) (tOp (rI0 fun i j => .int (i + j)) (tOp (rI IntMulOk fun i j => .int (i * j)) (tVar 4) (tVar 4)) (tOp (rI IntMulOk fun i j => .int (i * j)) (tVar 2) (tC (.int 40692)))) (tC (.int 7))) tNil)) (tC (.int 2147483399))) (gName 4))
    (tSeq (tAsg (tOp (rI (fun _ j => 0 < j) fun i j => .int (i % j)) (tCB rInt1 (tCons (tOp (rI0 fun i j => .int (i + j)) (tOp (rI0 fun i j => .int (i + j)) (tOp (rI IntMulOk fun i j => .int (i * j)) (tVar 4) (tVar 4)) (tVar 3)) (tC (.int 3))) tNil)) (tC (.int 2147483563))) (gName 4))
    (tRet (tOp (rI (fun _ j => 0 < j) fun i j => .int (i % j)) (tCB rInt1 (tCons (tOp (rI CDivF fun i j => .int (i.fdiv j)) (tVar 4) (tC (.int 7))) tNil)) (tVar 1)))))))))))
def t_integer (K : PySem.W.Frag) : TS :=
    (tRet (tAndV (tCB (rIsi K) (tCons (tVar 0) (tCons (tC (.ty "int")) tNil))) (tNotV (tCB (rIsi K) (tCons (tVar 0) (tCons (tC (.ty "bool")) tNil))))))
def t_common (K : PySem.W.Frag) : TS :=
    (tSeq (tAsg (tCB rAbs1 (tCons (tVar 0) tNil)) (gName 0))
    (tSeq (tAsg (tCB rAbs1 (tCons (tVar 1) tNil)) (gName 1))
    (tSeq (tFor (iRng1 (tCons (tOp (rI0 fun i j => .int (i + j)) (tOp (rI IntMulOk fun i j => .int (i * j)) (tC (.int 2)) (tBits (tVar 1))) (tC (.int 2))) tNil)) (gName 2) ((tSeq (tIfS (tTest (tOp rEq (tVar 1) (tC (.int 0)))) (tRet (tVar 0)) tNext)
    (tSeq (tAsg (tOp (rI (fun _ j => 0 < j) fun i j => .int (i % j)) (tCB rInt1 (tCons (tVar 0) tNil)) (tVar 1)) (gName 3))
    (tSeq (tAsg (tVar 1) (gName 0))
    (tAsg (tVar 3) (gName 1)))))))
    (tRet (tVar 0)))))
/-- a pool: two lists of ints (the second not empty) and a count -/
structure PoolIs (H : Hp) (P g s : Addr) (G S : List Int) (c : Int) : Prop where
  p : H P = some (.lst [.ref g, .ref s, .int c])
  g : H g = some (.lst (G.map V.int))
  s : H s = some (.lst (S.map V.int))
  lg : G.length ≤ 64
  ls : S.length ≤ 64
  ne : S ≠ []
def PoolAt (H : Hp) (P : Addr) : Prop := ∃ g s G S c, PoolIs H P g s G S c
theorem PoolIs.pg {H : Hp} {P g s : Addr} {G S : List Int} {c : Int} (h : PoolIs H P g s G S c) : g ≠ P := fun e => by
  have h1 := h.g
  rw [e, h.p] at h1
  cases G with
  | nil => cases h1
  | cons a r => cases h1
theorem PoolIs.ps {H : Hp} {P g s : Addr} {G S : List Int} {c : Int} (h : PoolIs H P g s G S c) : s ≠ P := fun e => by
  have h1 := h.s
  rw [e, h.p] at h1
  cases S with
  | nil => cases h1
  | cons a r => cases h1
/-- the pool, an int below the bound; nothing but the pool changes -/
def spTake : Sp := fun vs H Q _ => ∃ (P : Addr) (most : Int), vs = [.ref P, .int most] ∧ PoolAt H P ∧ most.natAbs < 2 ^ 8000 ∧
  ∀ (r : Int) (H' : Hp), PoolAt H' P → Keep P H H' → 0 ≤ r → (2 ≤ most → r < most) → (most < 2 → r = 0) → Q (.int r) H'
theorem atI_map {S : List Int} {i : Int} (h0 : 0 ≤ i) (h1 : i < (S.length : Int)) : ∃ z, atI (S.map V.int) i = some (.int z) := by
  obtain ⟨n, rfl⟩ := Int.eq_ofNat_of_zero_le h0
  have hn : n < S.length := by omega
  refine ⟨S[n], ?_⟩
  rw [atI_nat (v := .int S[n]) (by rw [List.getElem?_map, List.getElem?_eq_getElem hn]; rfl)]
theorem small_div {i : Int} {j : Int} (h : 0 < j ∧ j < 1000) : CDivF i j := ⟨by omega, by
  have h1 : j.natAbs < 2 ^ 10 := by omega
  exact Nat.lt_of_lt_of_le (PySem.Flt.log2_lt_of (by decide) h1) (by decide)⟩
theorem pos_div {i : Int} {j : Int} (h0 : 0 < j) (h : j.natAbs < 2 ^ 8000) : CDivF i j := ⟨by omega, Nat.lt_of_lt_of_le (PySem.Flt.log2_lt_of (by decide) h) (by decide)⟩
theorem any_div {i : Int} {j : Int} (h0 : j ≠ 0) (h : j.natAbs < 2 ^ 8000) : CDivF i j := ⟨h0, Nat.lt_of_lt_of_le (PySem.Flt.log2_lt_of (by decide) h) (by decide)⟩
theorem pure_take {K : PySem.W.Frag} (vs : List V) (H : Hp) (Q : VK) (E : XK) (h : spTake vs H Q E) : t_take K { nx := fun _ H' => Q .non H', rt := Q } (start ["pool", "most", "count", "seed", "mixed", "value", "rest"] vs) H := by
  obtain ⟨P, most, rfl, ⟨g, s, G, S, c, hp⟩, hm, k⟩ := h
  have npg := hp.pg
  have nps := hp.ps
  obtain ⟨h1, h2, h3, hG, hS, hS0⟩ := id hp
  show t_take K _ [some (.ref P), some (.int most), none, none, none, none, none] H
  unfold t_take
  have a0 : atI [V.ref g, .ref s, .int c] 0 = some (.ref g) := rfl
  have a1 : atI [V.ref g, .ref s, .int c] 1 = some (.ref s) := rfl
  have a2 : atI [V.ref g, .ref s, .int c] 2 = some (.int c) := rfl
  have ix0 : ixN [V.ref g, .ref s, .int c].length 0 = some 0 := rfl
  have ix2 : ixN [V.ref g, .ref s, .int c].length 2 = some 2 := rfl
  simp only [x_seq, x_if, x_test, x_B, x_op, x_un, x_varS, x_var0, x_c, x_I0, x_I, x_U, x_bl, x_ret, x_next, x_asg, x_name, x_set0, x_setS, x_drop, x_cb, x_cons, x_nil, x_int1, x_abs1, x_max2, x_gcd, x_gsub, x_sl, x_part, x_nopart, x_int, x_call, x_lst, x_tup, x_not, x_and, x_or, x_andV, x_orV, x_notV, x_ifE, x_eqI, x_neI, x_eqB, x_neB, x_tbm, decide_eq_true_eq, List.append_nil, List.nil_append, List.cons_append, x_ix h1 a0, x_lenA h2, List.length_map]
  refine ite2 (fun hlt => k 0 H ⟨g, s, G, S, c, hp⟩ (Keep.refl _ _) (Int.le_refl _) (fun z => absurd hlt (by omega)) fun _ => rfl) fun hge => ?_
  have hmost : (0 : Int) < most := by omega
  refine ite2 (fun hlen => ?_) (fun hlen => ?_)
  · -- an int of the greats
    obtain ⟨z, G', rfl⟩ : ∃ z G', G = z :: G' := by
      cases G with
      | nil => exact absurd hlen (by simp)
      | cons a r => exact ⟨a, r, rfl⟩
    have b0 : atI ((z :: G').map V.int) 0 = some (.int z) := atI_0
    have ec : cutV ((z :: G').map V.int) (some 1) none = G'.map V.int := by
      unfold cutV
      rw [show (1 : Int) = ((1 : Nat) : Int) from rfl, HT.sIx_nat, HT.sIx_none]
      simp only [List.map_cons, List.length_cons, List.length_map, Nat.add_sub_cancel]
      rw [Nat.min_eq_left (by omega)]
      simp only [List.drop_succ_cons, List.drop_zero, Nat.add_sub_cancel]
      rw [← List.length_map (f := V.int) (as := G'), List.take_length]
    simp only [x_seq, x_if, x_test, x_B, x_op, x_un, x_varS, x_var0, x_c, x_I0, x_I, x_U, x_bl, x_ret, x_next, x_asg, x_name, x_set0, x_setS, x_drop, x_cb, x_cons, x_nil, x_int1, x_abs1, x_max2, x_gcd, x_gsub, x_sl, x_part, x_nopart, x_int, x_call, x_lst, x_tup, x_not, x_and, x_or, x_andV, x_orV, x_notV, x_ifE, x_eqI, x_neI, x_eqB, x_neB, x_tbm, decide_eq_true_eq, List.append_nil, List.nil_append, List.cons_append, x_ix h2 b0, x_ix h1 a0, x_slA h2, ec]
    intro q hq
    have hq1 : (upd H q (.lst (G'.map V.int))) q = some (.lst (G'.map V.int)) := upd_same
    simp only [x_listA hq1]
    intro q2 hq2
    have e2 : (upd (upd H q (.lst (G'.map V.int))) q2 (.lst (G'.map V.int))) q2 = some (.lst (G'.map V.int)) := upd_same
    have s2 : Same H (upd (upd H q (.lst (G'.map V.int))) q2 (.lst (G'.map V.int))) := Same.new' (Same.new hq) hq2
    generalize (upd (upd H q (.lst (G'.map V.int))) q2 (.lst (G'.map V.int))) = H2 at e2 s2
    -- behind: the rest is stored, the remainder goes back
    have fin : ∀ (r : Addr) (H3 : Hp) (R : List Int), R.length ≤ 64 → H3 r = some (.lst (R.map V.int)) → Same H H3 →
        Q (.int (z % most)) (upd H3 P (.lst [.ref r, .ref s, .int c])) := by
      intro r H3 R hR hr s3
      have hrP : r ≠ P := by
        intro e
        have hP := s3 _ _ h1
        rw [e, hP] at hr
        cases R with
        | nil => cases hr
        | cons a l => cases hr
      refine k _ _ ⟨r, s, R, S, c, ⟨upd_same, ?_, ?_, hR, hS, hS0⟩⟩ (Keep.at (Keep.of s3)) (Int.emod_nonneg _ (by omega)) (fun _ => Int.emod_lt_of_pos _ hmost) (fun z => absurd z (by omega))
      · rw [upd_ne hrP]
        exact hr
      · rw [upd_ne nps]
        exact s3 _ _ h3
    have hP2 := s2 _ _ h1
    refine ⟨pos_div hmost hm, ?_⟩
    refine ite2 (fun hd => ?_) (fun hd => ?_)
    · refine ⟨pos_div hmost hm, by show 1 ≤ sizeLine; decide, fun q3 hq3 => ?_⟩
      have e3 : (upd H2 q3 (.lst [.int (z.fdiv most)])) q3 = some (.lst [.int (z.fdiv most)]) := upd_same
      have s3 : Same H2 (upd H2 q3 (.lst [.int (z.fdiv most)])) := Same.new hq3
      have e4 := s3 _ _ e2
      generalize (upd H2 q3 (.lst [.int (z.fdiv most)])) = H3 at e3 s3 e4
      simp only [x_cat e3 e4 (by rw [List.length_map]; exact sl5 (by simp only [List.length_cons] at hG; simp only [List.length_cons, List.length_nil]; omega))]
      intro q4 hq4
      have e5 : (upd H3 q4 (.lst ([V.int (z.fdiv most)] ++ G'.map V.int))) q4 = some (.lst ((z.fdiv most :: G').map V.int)) := upd_same
      have s5 : Same H (upd H3 q4 (.lst ([V.int (z.fdiv most)] ++ G'.map V.int))) := Same.new' (s2.trans s3) hq4
      generalize (upd H3 q4 (.lst ([V.int (z.fdiv most)] ++ G'.map V.int))) = H5 at e5 s5
      simp only [x_seq, x_if, x_test, x_B, x_op, x_un, x_varS, x_var0, x_c, x_I0, x_I, x_U, x_bl, x_ret, x_next, x_asg, x_name, x_set0, x_setS, x_drop, x_cb, x_cons, x_nil, x_int1, x_abs1, x_max2, x_gcd, x_gsub, x_sl, x_part, x_nopart, x_int, x_call, x_lst, x_tup, x_not, x_and, x_or, x_andV, x_orV, x_notV, x_ifE, x_eqI, x_neI, x_eqB, x_neB, x_tbm, decide_eq_true_eq, List.append_nil, List.nil_append, List.cons_append, x_setL (s5 _ _ h1) ix0]
      exact ⟨hmost, fin q4 H5 (z.fdiv most :: G') hG e5 s5⟩
    · simp only [x_seq, x_if, x_test, x_B, x_op, x_un, x_varS, x_var0, x_c, x_I0, x_I, x_U, x_bl, x_ret, x_next, x_asg, x_name, x_set0, x_setS, x_drop, x_cb, x_cons, x_nil, x_int1, x_abs1, x_max2, x_gcd, x_gsub, x_sl, x_part, x_nopart, x_int, x_call, x_lst, x_tup, x_not, x_and, x_or, x_andV, x_orV, x_notV, x_ifE, x_eqI, x_neI, x_eqB, x_neB, x_tbm, decide_eq_true_eq, List.append_nil, List.nil_append, List.cons_append, x_setL hP2 ix0]
      exact ⟨hmost, fin q2 H2 G' (by simp only [List.length_cons] at hG; omega) e2 s2⟩
  · -- an int reckoned of the smalls
    have h4 : (upd H P (.lst [.ref g, .ref s, .int (c + 1)])) P = some (.lst [.ref g, .ref s, .int (c + 1)]) := upd_same
    have h5 : (upd H P (.lst [.ref g, .ref s, .int (c + 1)])) s = some (.lst (S.map V.int)) := by
      rw [upd_ne nps]
      exact h3
    have hp4 : PoolAt (upd H P (.lst [.ref g, .ref s, .int (c + 1)])) P := ⟨g, s, G, S, c + 1, ⟨h4, by rw [upd_ne npg]; exact h2, h5, hG, hS, hS0⟩⟩
    have k4 : Keep P H (upd H P (.lst [.ref g, .ref s, .int (c + 1)])) := Keep.at (Keep.refl _ _)
    have es : ([V.ref g, .ref s, .int c].set 2 (.int (c + 1))) = [V.ref g, .ref s, .int (c + 1)] := rfl
    have b1 : atI [V.ref g, .ref s, .int (c + 1)] 1 = some (.ref s) := rfl
    simp only [x_seq, x_if, x_test, x_B, x_op, x_un, x_varS, x_var0, x_c, x_I0, x_I, x_U, x_bl, x_ret, x_next, x_asg, x_name, x_set0, x_setS, x_drop, x_cb, x_cons, x_nil, x_int1, x_abs1, x_max2, x_gcd, x_gsub, x_sl, x_part, x_nopart, x_int, x_call, x_lst, x_tup, x_not, x_and, x_or, x_andV, x_orV, x_notV, x_ifE, x_eqI, x_neI, x_eqB, x_neB, x_tbm, decide_eq_true_eq, List.append_nil, List.nil_append, List.cons_append, x_ix h1 a2, x_setL h1 ix2, es]
    generalize (upd H P (.lst [.ref g, .ref s, .int (c + 1)])) = H4 at h4 h5 hp4 k4
    have hSl : (0 : Int) < (S.length : Int) := by
      cases S with
      | nil => exact absurd rfl hS0
      | cons a r => simp only [List.length_cons]; omega
    simp only [x_seq, x_if, x_test, x_B, x_op, x_un, x_varS, x_var0, x_c, x_I0, x_I, x_U, x_bl, x_ret, x_next, x_asg, x_name, x_set0, x_setS, x_drop, x_cb, x_cons, x_nil, x_int1, x_abs1, x_max2, x_gcd, x_gsub, x_sl, x_part, x_nopart, x_int, x_call, x_lst, x_tup, x_not, x_and, x_or, x_andV, x_orV, x_notV, x_ifE, x_eqI, x_neI, x_eqB, x_neB, x_tbm, decide_eq_true_eq, List.append_nil, List.nil_append, List.cons_append, x_ix h4 b1, x_lenA h5, List.length_map]
    refine ⟨small_div (by decide), hSl, ?_⟩
    obtain ⟨sd, hsd⟩ := atI_map (S := S) (i := (c.fdiv 4) % (S.length : Int)) (Int.emod_nonneg _ (by omega)) (Int.emod_lt_of_pos _ hSl)
    simp only [x_seq, x_if, x_test, x_B, x_op, x_un, x_varS, x_var0, x_c, x_I0, x_I, x_U, x_bl, x_ret, x_next, x_asg, x_name, x_set0, x_setS, x_drop, x_cb, x_cons, x_nil, x_int1, x_abs1, x_max2, x_gcd, x_gsub, x_sl, x_part, x_nopart, x_int, x_call, x_lst, x_tup, x_not, x_and, x_or, x_andV, x_orV, x_notV, x_ifE, x_eqI, x_neI, x_eqB, x_neB, x_tbm, decide_eq_true_eq, List.append_nil, List.nil_append, List.cons_append, x_ix h5 hsd]
    refine ⟨mul_lit (by decide), mul_lit (by decide), by decide, ?_⟩
    generalize (sd * 48271 + c * 69621 + 12345) = m0
    have hm0 : -(2 ^ 64) < m0 % 2147483647 ∧ m0 % 2147483647 < 2 ^ 64 := by omega
    refine ⟨mul_lit hm0, mul_lit (by decide), by decide, ?_⟩
    generalize (m0 % 2147483647 * (m0 % 2147483647) + c * 40692 + 7) = m1
    have hm1 : -(2 ^ 64) < m1 % 2147483399 ∧ m1 % 2147483399 < 2 ^ 64 := by omega
    refine ⟨mul_lit hm1, by decide, small_div (by decide), hmost, ?_⟩
    exact k _ _ hp4 k4 (Int.emod_nonneg _ (by omega)) (fun _ => Int.emod_lt_of_pos _ hmost) (fun z => absurd z (by omega))

/-- a new pool of the script -/
def spPool (K : PySem.W.Frag) : Sp := fun vs H Q _ => ∃ (a : Addr) (ns : List Int), vs = [.ref a] ∧ SqL K H a (ns.map V.int) ∧ ns.length ≤ 63 ∧ ∀ (P : Addr) (H' : Hp), PoolAt H' P → Same H H' → Q (.ref P) H'
theorem pure_pool {K : PySem.W.Frag} (vs : List V) (H : Hp) (Q : VK) (E : XK) (h : spPool K vs H Q E) : t_pool K { nx := fun _ H' => Q .non H', rt := Q } (start ["script", "greats", "smalls", "cell"] vs) H := by
  obtain ⟨a, ns, rfl, hS, hn, k⟩ := h
  show t_pool K _ [some (.ref a), none, none, none] H
  unfold t_pool
  simp only [x_seq, x_if, x_test, x_B, x_op, x_un, x_varS, x_var0, x_c, x_I0, x_I, x_U, x_bl, x_ret, x_next, x_asg, x_name, x_set0, x_setS, x_drop, x_cb, x_cons, x_nil, x_int1, x_abs1, x_max2, x_gcd, x_gsub, x_sl, x_part, x_nopart, x_int, x_call, x_lst, x_tup, x_not, x_and, x_or, x_andV, x_orV, x_notV, x_ifE, x_eqI, x_neI, x_eqB, x_neB, x_tbm, decide_eq_true_eq, List.append_nil, List.nil_append, List.cons_append]
  refine ⟨by decide, fun g hg => ⟨by decide, fun s hs => ?_⟩⟩
  have ngs : s ≠ g := fun e => by
    subst e
    rw [upd_same] at hs
    cases hs
  have s0 : Same H (upd (upd H g (.lst [])) s (.lst [])) := Same.new' (Same.new hg) hs
  have hs0 : H s = none := (Same.new hg).free hs
  refine ⟨_, rfl, a, rfl, ⟨_, s0.seq hS⟩, for_list (K := K) (a := a) (xs := ns.map V.int) (fun i σ H' => ∃ (G S : List Int) (cl : Option V), σ = [some (.ref a), some (.ref g), some (.ref s), cl] ∧ H' g = some (.lst (G.map V.int)) ∧ H' s = some (.lst (S.map V.int)) ∧ G.length ≤ i ∧ S.length ≤ i ∧ Same H H')
    ⟨[], [], none, rfl, by rw [upd_ne ngs.symm, upd_same]; rfl, by rw [upd_same]; rfl, Nat.le_refl _, Nat.le_refl _, s0⟩ (fun i σ H' _ ⟨_, _, _, _, _, _, _, _, s1⟩ => s1.seq hS) ?_ ?_⟩
  · rintro i y σ H' hi ⟨G, S, cl, rfl, h1, h2, l1, l2, s1⟩
    have hil : i < ns.length := by
      have := (List.getElem?_eq_some_iff.mp hi).1
      rwa [List.length_map] at this
    obtain ⟨z, rfl⟩ : ∃ z, y = V.int z := by
      rw [List.getElem?_map] at hi
      cases e : ns[i]? with
      | none => rw [e] at hi; cases hi
      | some z => rw [e] at hi; exact ⟨z, (Option.some.inj hi).symm⟩
    have ha : ∀ (l : List Int) (b : Int), l.map V.int ++ [V.int b] = (l ++ [b]).map V.int := fun l b => by rw [List.map_append]; rfl
    simp only [x_seq, x_if, x_test, x_B, x_op, x_un, x_varS, x_var0, x_c, x_I0, x_I, x_U, x_bl, x_ret, x_next, x_asg, x_name, x_set0, x_setS, x_drop, x_cb, x_cons, x_nil, x_int1, x_abs1, x_max2, x_gcd, x_gsub, x_sl, x_part, x_nopart, x_int, x_call, x_lst, x_tup, x_not, x_and, x_or, x_andV, x_orV, x_notV, x_ifE, x_eqI, x_neI, x_eqB, x_neB, x_tbm, decide_eq_true_eq, List.append_nil, List.nil_append, List.cons_append]
    refine ⟨⟨by decide, by decide, by decide⟩, ?_⟩
    refine ite2 (fun _ => ?_) (fun _ => ?_)
    · refine ⟨ty_lst h1, ?_⟩
      simp only [x_append h1 (by rw [List.length_map]; exact Nat.lt_of_le_of_lt l1 (Nat.lt_of_lt_of_le (show i < 1000 by omega) (by decide)))]
      refine ⟨G ++ [if z < 0 then -z else z], S, _, rfl, by rw [upd_same, ha], by rw [upd_ne ngs]; exact h2, by rw [List.length_append]; simp; omega, by omega, fun b o e => ?_⟩
      rw [upd_ne (ne_of_none e hg)]
      exact s1 b o e
    · refine ⟨ty_lst h2, ?_⟩
      simp only [x_append h2 (by rw [List.length_map]; exact Nat.lt_of_le_of_lt l2 (Nat.lt_of_lt_of_le (show i < 1000 by omega) (by decide)))]
      refine ⟨G, S ++ [if z < 0 then -z else z], _, rfl, by rw [upd_ne ngs.symm]; exact h1, by rw [upd_same, ha], by omega, by rw [List.length_append]; simp; omega, fun b o e => ?_⟩
      rw [upd_ne (ne_of_none e hs0)]
      exact s1 b o e
  · rintro σ H' ⟨G, S, cl, rfl, h1, h2, l1, l2, s1⟩
    rw [List.length_map] at l1 l2
    -- the pool's own list
    have fin : ∀ (H2 : Hp) (S2 : List Int), H2 g = some (.lst (G.map V.int)) → H2 s = some (.lst (S2.map V.int)) → Same H H2 → S2 ≠ [] → S2.length ≤ 64 → ∀ p, H2 p = none → Q (.ref p) (upd H2 p (.lst [.ref g, .ref s, .int 0])) := by
      intro H2 S2 e1 e2 s2 ne l p hp
      refine k p _ ⟨g, s, G, S2, 0, ⟨upd_same, ?_, ?_, by omega, l, ne⟩⟩ (Same.new' s2 hp)
      · rw [upd_ne (ne_of_none e1 hp)]
        exact e1
      · rw [upd_ne (ne_of_none e2 hp)]
        exact e2
    simp only [x_seq, x_if, x_test, x_B, x_op, x_un, x_varS, x_var0, x_c, x_I0, x_I, x_U, x_bl, x_ret, x_next, x_asg, x_name, x_set0, x_setS, x_drop, x_cb, x_cons, x_nil, x_int1, x_abs1, x_max2, x_gcd, x_gsub, x_sl, x_part, x_nopart, x_int, x_call, x_lst, x_tup, x_not, x_and, x_or, x_andV, x_orV, x_notV, x_ifE, x_eqI, x_neI, x_eqB, x_neB, x_tbm, decide_eq_true_eq, List.append_nil, List.nil_append, List.cons_append, x_lenA h2, x_lenA h1, List.length_map]
    refine ite2 (fun hz => ?_) (fun hz => ?_)
    · refine ⟨ty_lst h2, ?_⟩
      simp only [x_append h2 (by rw [List.length_map]; exact Nat.lt_of_le_of_lt l2 (Nat.lt_of_lt_of_le (show ns.length < 1000 by omega) (by decide)))]
      have hS0 : S = [] := by
        cases S with
        | nil => rfl
        | cons a r => simp only [List.length_cons] at hz; omega
      subst hS0
      refine ⟨(by show 3 ≤ sizeLine; decide), fin _ [(G.length : Int)] (by rw [upd_ne ngs.symm]; exact h1) (by rw [upd_same]; rfl) (fun b o e => ?_) (by simp) (by simp)⟩
      rw [upd_ne (ne_of_none e hs0)]
      exact s1 b o e
    · exact ⟨(by show 3 ≤ sizeLine; decide), fin _ S h1 h2 s1 (fun e => hz (by subst e; rfl)) (by omega)⟩

/-- an int is told as one -/
def spInteger : Sp := fun vs H Q _ => ∃ i : Int, vs = [.int i] ∧ Q (.bl true) H
theorem pure_integer {K : PySem.W.Frag} (vs : List V) (H : Hp) (Q : VK) (E : XK) (h : spInteger vs H Q E) : t_integer K { nx := fun _ H' => Q .non H', rt := Q } (start ["thing"] vs) H := by
  obtain ⟨i, rfl, k⟩ := h
  show t_integer K _ [some (.int i)] H
  unfold t_integer
  simp only [x_seq, x_if, x_test, x_B, x_op, x_un, x_varS, x_var0, x_c, x_I0, x_I, x_U, x_bl, x_ret, x_next, x_asg, x_name, x_set0, x_setS, x_drop, x_cb, x_cons, x_nil, x_int1, x_abs1, x_max2, x_gcd, x_gsub, x_sl, x_part, x_nopart, x_int, x_call, x_lst, x_tup, x_not, x_and, x_or, x_andV, x_orV, x_notV, x_ifE, x_eqI, x_neI, x_eqB, x_neB, x_tbm, decide_eq_true_eq, List.append_nil, List.nil_append, List.cons_append]
  refine ⟨_, _, .type "int", .type "int", true, rfl, .ty _, .base (.int _), kit_ty (by decide +kernel), true, rfl, ?_⟩
  rw [if_pos rfl]
  refine ⟨_, _, .type "int", .type "bool", false, rfl, .ty _, .base (.int _), kit_ty (by decide +kernel), false, rfl, ?_⟩
  exact k

/-! ### the greatest common divisor, by Euclid with turns enough -/
theorem emod_half {x y : Int} (hy : 0 < y) (h : y < x) : 2 * (x % y) < x := by
  have h1 : x % y < y := Int.emod_lt_of_pos _ hy
  have h2 : y * (x / y) + x % y = x := Int.mul_ediv_add_emod x y
  have h3 : 1 ≤ x / y := by
    have := Int.le_ediv_of_mul_le (a := 1) hy (by omega : 1 * y ≤ x)
    exact this
  have h4 : y * 1 ≤ y * (x / y) := Int.mul_le_mul_of_nonneg_left h3 (by omega)
  omega
/-- what holds behind i turns: b0 the second number at the start -/
def Eu (a0 b0 : Int) (i : Nat) (x y : Int) : Prop := 0 ≤ x ∧ 0 ≤ y ∧ Nat.gcd x.natAbs y.natAbs = Nat.gcd a0.natAbs b0.natAbs ∧
  ((i % 2 = 0 ∧ 2 ^ (i / 2) * y ≤ b0) ∨ (i % 2 = 1 ∧ 2 ^ (i / 2) * x ≤ b0 ∧ y < x))
theorem Eu.turn {a0 b0 x y : Int} {i : Nat} (h : Eu a0 b0 i x y) (hy : y ≠ 0) : Eu a0 b0 (i + 1) y (x % y) := by
  obtain ⟨h1, h2, h3, h4⟩ := h
  have hp : 0 < y := by omega
  have n1 := Int.emod_nonneg x hy
  have n2 := Int.emod_lt_of_pos x hp
  refine ⟨h2, n1, ?_, ?_⟩
  · rw [← h3]
    have e : (x % y).natAbs = x.natAbs % y.natAbs := by
      have e1 : (x % y).natAbs = (x.natAbs % y.natAbs) := by
        rw [Int.natAbs_emod_of_nonneg h1]
      exact e1
    rw [e, Nat.gcd_comm y.natAbs, ← Nat.gcd_rec, Nat.gcd_comm]
  · rcases h4 with ⟨p, q⟩ | ⟨p, q, r⟩
    · right
      refine ⟨by omega, ?_, n2⟩
      rw [show (i + 1) / 2 = i / 2 by omega]
      exact q
    · left
      refine ⟨by omega, ?_⟩
      have e : (i + 1) / 2 = i / 2 + 1 := by omega
      rw [e, Int.pow_succ, Int.mul_assoc]
      have hh := emod_half hp r
      exact Int.le_trans (Int.mul_le_mul_of_nonneg_left (by omega) (Int.le_of_lt (Int.pow_pos (by decide)))) q
theorem Eu.end_ {a0 b0 x y : Int} {n B : Nat} (h : Eu a0 b0 n x y) (hn : n = 2 * B + 2) (hb : b0 < 2 ^ B) : y = 0 := by
  obtain ⟨h1, h2, h3, h4⟩ := h
  subst hn
  rcases h4 with ⟨p, q⟩ | ⟨p, q, r⟩
  · rw [show (2 * B + 2) / 2 = B + 1 by omega, Int.pow_succ] at q
    by_cases hy : y = 0
    · exact hy
    · exfalso
      have hp : (0 : Int) < 2 ^ B := Int.pow_pos (by decide)
      have h5 : 2 ^ B * 2 * 1 ≤ 2 ^ B * 2 * y := Int.mul_le_mul_of_nonneg_left (by omega) (by omega)
      omega
  · omega
theorem bits_lt (b : Int) (h : 0 ≤ b) : b < 2 ^ (Builtin.Int.intBits b) := by
  unfold Builtin.Int.intBits
  split
  · rename_i hz
    have : b = 0 := by simpa using hz
    subst this
    decide
  · rename_i hz
    have h1 : b.natAbs < 2 ^ (b.natAbs.log2 + 1) := Nat.lt_log2_self
    have h2 : (b.natAbs : Int) < ((2 ^ (b.natAbs.log2 + 1) : Nat) : Int) := Int.ofNat_lt.mpr h1
    rw [Int.natAbs_of_nonneg h] at h2
    simpa using h2
theorem bits_small {b : Int} (h : b.natAbs < 2 ^ 8000) : Builtin.Int.intBits b ≤ 8000 := by
  unfold Builtin.Int.intBits
  split
  · omega
  · have := PySem.Flt.log2_lt_of (by decide) h
    omega
/-- gcd -/
def spCommon : Sp := fun vs H Q _ => ∃ a b : Int, vs = [.int a, .int b] ∧ b.natAbs < 2 ^ 8000 ∧ Q (.int ((Nat.gcd a.natAbs b.natAbs : Nat) : Int)) H
theorem abs_if (a : Int) : (if a < 0 then -a else a) = (a.natAbs : Int) := by split <;> omega
theorem pure_common {K : PySem.W.Frag} (vs : List V) (H : Hp) (Q : VK) (E : XK) (h : spCommon vs H Q E) : t_common K { nx := fun _ H' => Q .non H', rt := Q } (start ["one", "two", "k", "rest"] vs) H := by
  obtain ⟨a, b, rfl, hb, k⟩ := h
  show t_common K _ [some (.int a), some (.int b), none, none] H
  unfold t_common
  simp only [x_seq, x_if, x_test, x_B, x_op, x_un, x_varS, x_var0, x_c, x_I0, x_I, x_U, x_bl, x_ret, x_next, x_asg, x_name, x_set0, x_setS, x_drop, x_cb, x_cons, x_nil, x_int1, x_abs1, x_max2, x_gcd, x_gsub, x_sl, x_part, x_nopart, x_int, x_call, x_lst, x_tup, x_not, x_and, x_or, x_andV, x_orV, x_notV, x_ifE, x_eqI, x_neI, x_eqB, x_neB, x_tbm, decide_eq_true_eq, List.append_nil, List.nil_append, List.cons_append, abs_if]
  have hB := bits_small (b := (b.natAbs : Int)) (by simpa using hb)
  have hlt := bits_lt (b.natAbs : Int) (by omega)
  refine ⟨_, rfl, _, rfl, _, _, rfl, rfl, mul_lit' (by decide), _, _, rfl, rfl, _, rfl, by omega, by omega, ?_⟩
  rw [show (2 * (Builtin.Int.intBits (b.natAbs : Int) : Int) + 2).toNat = 2 * Builtin.Int.intBits (b.natAbs : Int) + 2 by omega]
  refine for_range (lo := 0) (fun i σ H' => H' = H ∧ ∃ (x y : Int) (u v : Option V), σ = [some (.int x), some (.int y), u, v] ∧ Eu (a.natAbs : Int) (b.natAbs : Int) i x y) ⟨rfl, _, _, none, none, rfl, by omega, by omega, rfl, .inl ⟨rfl, by simp⟩⟩ ?_ ?_
  · rintro i σ H' hi ⟨rfl, x, y, u, v, rfl, hE⟩
    simp only [x_seq, x_if, x_test, x_B, x_op, x_un, x_varS, x_var0, x_c, x_I0, x_I, x_U, x_bl, x_ret, x_next, x_asg, x_name, x_set0, x_setS, x_drop, x_cb, x_cons, x_nil, x_int1, x_abs1, x_max2, x_gcd, x_gsub, x_sl, x_part, x_nopart, x_int, x_call, x_lst, x_tup, x_not, x_and, x_or, x_andV, x_orV, x_notV, x_ifE, x_eqI, x_neI, x_eqB, x_neB, x_tbm, decide_eq_true_eq, List.append_nil, List.nil_append, List.cons_append]
    refine ite2 (fun hy => ?_) (fun hy => ?_)
    · have h3 := hE.2.2.1
      have h1 := hE.1
      rw [hy] at h3
      simp only [Int.natAbs_zero, Nat.gcd_zero_right, Int.natAbs_natCast] at h3
      rw [show x = ((Nat.gcd a.natAbs b.natAbs : Nat) : Int) by rw [← h3]; omega]
      exact k
    · have := hE.2.1
      exact ⟨by omega, trivial, _, _, _, _, rfl, hE.turn hy⟩
  · rintro σ H' ⟨rfl, x, y, u, v, rfl, hE⟩
    have hy := hE.end_ rfl hlt
    have h3 := hE.2.2.1
    have h1 := hE.1
    rw [hy] at h3
    simp only [Int.natAbs_zero, Nat.gcd_zero_right, Int.natAbs_natCast] at h3
    simp only [x_seq, x_if, x_test, x_B, x_op, x_un, x_varS, x_var0, x_c, x_I0, x_I, x_U, x_bl, x_ret, x_next, x_asg, x_name, x_set0, x_setS, x_drop, x_cb, x_cons, x_nil, x_int1, x_abs1, x_max2, x_gcd, x_gsub, x_sl, x_part, x_nopart, x_int, x_call, x_lst, x_tup, x_not, x_and, x_or, x_andV, x_orV, x_notV, x_ifE, x_eqI, x_neI, x_eqB, x_neB, x_tbm, decide_eq_true_eq, List.append_nil, List.nil_append, List.cons_append]
    rw [show x = ((Nat.gcd a.natAbs b.natAbs : Nat) : Int) by rw [← h3]; omega]
    exact k
end SpX

set_option Elab.async false
set_option linter.all false
set_option maxRecDepth 100000
set_option maxHeartbeats 2000000
/-! Draws beside lists that grow: the pool's own lists are none of those in B. -/
namespace SpX
open PySem PySem.Spec L2
def PoolB (B : Addr → Prop) (H : Hp) (P : Addr) : Prop := ∃ g s G S c, PoolIs H P g s G S c ∧ ¬ B g ∧ ¬ B s
def spTakeB : Sp := fun vs H Q _ => ∃ (P : Addr) (most : Int) (B : Addr → Prop), vs = [.ref P, .int most] ∧ PoolB B H P ∧ (∀ b, B b → ∃ o, H b = some o) ∧ most.natAbs < 2 ^ 8000 ∧
  ∀ (r : Int) (H' : Hp), PoolB B H' P → Keep P H H' → 0 ≤ r → (2 ≤ most → r < most) → (most < 2 → r = 0) → Q (.int r) H'
theorem pure_takeB {K : PySem.W.Frag} (vs : List V) (H : Hp) (Q : VK) (E : XK) (h : spTakeB vs H Q E) : t_take K { nx := fun _ H' => Q .non H', rt := Q } (start ["pool", "most", "count", "seed", "mixed", "value", "rest"] vs) H := by
  obtain ⟨P, most, B, rfl, ⟨g, s, G, S, c, hp, bg, bs⟩, hB, hm, k⟩ := h
  have npg := hp.pg
  have nps := hp.ps
  obtain ⟨h1, h2, h3, hG, hS, hS0⟩ := id hp
  show t_take K _ [some (.ref P), some (.int most), none, none, none, none, none] H
  unfold t_take
  have a0 : atI [V.ref g, .ref s, .int c] 0 = some (.ref g) := rfl
  have a1 : atI [V.ref g, .ref s, .int c] 1 = some (.ref s) := rfl
  have a2 : atI [V.ref g, .ref s, .int c] 2 = some (.int c) := rfl
  have ix0 : ixN [V.ref g, .ref s, .int c].length 0 = some 0 := rfl
  have ix2 : ixN [V.ref g, .ref s, .int c].length 2 = some 2 := rfl
  simp only [x_seq, x_if, x_test, x_B, x_op, x_un, x_varS, x_var0, x_c, x_I0, x_I, x_U, x_bl, x_ret, x_next, x_asg, x_name, x_set0, x_setS, x_drop, x_cb, x_cons, x_nil, x_int1, x_abs1, x_max2, x_gcd, x_gsub, x_sl, x_part, x_nopart, x_int, x_call, x_lst, x_tup, x_not, x_and, x_or, x_andV, x_orV, x_notV, x_ifE, x_eqI, x_neI, x_eqB, x_neB, x_tbm, decide_eq_true_eq, List.append_nil, List.nil_append, List.cons_append, x_ix h1 a0, x_lenA h2, List.length_map]
  refine ite2 (fun hlt => k 0 H ⟨g, s, G, S, c, hp, bg, bs⟩ (Keep.refl _ _) (Int.le_refl _) (fun z => absurd hlt (by omega)) fun _ => rfl) fun hge => ?_
  have hmost : (0 : Int) < most := by omega
  refine ite2 (fun hlen => ?_) (fun hlen => ?_)
  · -- an int of the greats
    obtain ⟨z, G', rfl⟩ : ∃ z G', G = z :: G' := by
      cases G with
      | nil => exact absurd hlen (by simp)
      | cons a r => exact ⟨a, r, rfl⟩
    have b0 : atI ((z :: G').map V.int) 0 = some (.int z) := atI_0
    have ec : cutV ((z :: G').map V.int) (some 1) none = G'.map V.int := by
      unfold cutV
      rw [show (1 : Int) = ((1 : Nat) : Int) from rfl, HT.sIx_nat, HT.sIx_none]
      simp only [List.map_cons, List.length_cons, List.length_map, Nat.add_sub_cancel]
      rw [Nat.min_eq_left (by omega)]
      simp only [List.drop_succ_cons, List.drop_zero, Nat.add_sub_cancel]
      rw [← List.length_map (f := V.int) (as := G'), List.take_length]
    simp only [x_seq, x_if, x_test, x_B, x_op, x_un, x_varS, x_var0, x_c, x_I0, x_I, x_U, x_bl, x_ret, x_next, x_asg, x_name, x_set0, x_setS, x_drop, x_cb, x_cons, x_nil, x_int1, x_abs1, x_max2, x_gcd, x_gsub, x_sl, x_part, x_nopart, x_int, x_call, x_lst, x_tup, x_not, x_and, x_or, x_andV, x_orV, x_notV, x_ifE, x_eqI, x_neI, x_eqB, x_neB, x_tbm, decide_eq_true_eq, List.append_nil, List.nil_append, List.cons_append, x_ix h2 b0, x_ix h1 a0, x_slA h2, ec]
    intro q hq
    have hq1 : (upd H q (.lst (G'.map V.int))) q = some (.lst (G'.map V.int)) := upd_same
    simp only [x_listA hq1]
    intro q2 hq2
    have e2 : (upd (upd H q (.lst (G'.map V.int))) q2 (.lst (G'.map V.int))) q2 = some (.lst (G'.map V.int)) := upd_same
    have s2 : Same H (upd (upd H q (.lst (G'.map V.int))) q2 (.lst (G'.map V.int))) := Same.new' (Same.new hq) hq2
    have n2 : ¬ B q2 := fun z => by
      obtain ⟨o, e⟩ := hB q2 z
      have e' := Same.new (o := .lst (G'.map V.int)) hq q2 o e
      rw [hq2] at e'
      cases e'
    generalize (upd (upd H q (.lst (G'.map V.int))) q2 (.lst (G'.map V.int))) = H2 at e2 s2
    -- behind: the rest is stored, the remainder goes back
    have fin : ∀ (r : Addr) (H3 : Hp) (R : List Int), ¬ B r → R.length ≤ 64 → H3 r = some (.lst (R.map V.int)) → Same H H3 →
        Q (.int (z % most)) (upd H3 P (.lst [.ref r, .ref s, .int c])) := by
      intro r H3 R nr hR hr s3
      have hrP : r ≠ P := by
        intro e
        have hP := s3 _ _ h1
        rw [e, hP] at hr
        cases R with
        | nil => cases hr
        | cons a l => cases hr
      refine k _ _ ⟨r, s, R, S, c, ⟨upd_same, ?_, ?_, hR, hS, hS0⟩, nr, bs⟩ (Keep.at (Keep.of s3)) (Int.emod_nonneg _ (by omega)) (fun _ => Int.emod_lt_of_pos _ hmost) (fun z => absurd z (by omega))
      · rw [upd_ne hrP]
        exact hr
      · rw [upd_ne nps]
        exact s3 _ _ h3
    have hP2 := s2 _ _ h1
    refine ⟨pos_div hmost hm, ?_⟩
    refine ite2 (fun hd => ?_) (fun hd => ?_)
    · refine ⟨pos_div hmost hm, by show 1 ≤ sizeLine; decide, fun q3 hq3 => ?_⟩
      have e3 : (upd H2 q3 (.lst [.int (z.fdiv most)])) q3 = some (.lst [.int (z.fdiv most)]) := upd_same
      have s3 : Same H2 (upd H2 q3 (.lst [.int (z.fdiv most)])) := Same.new hq3
      have e4 := s3 _ _ e2
      generalize (upd H2 q3 (.lst [.int (z.fdiv most)])) = H3 at e3 s3 e4
      simp only [x_cat e3 e4 (by rw [List.length_map]; exact sl5 (by simp only [List.length_cons] at hG; simp only [List.length_cons, List.length_nil]; omega))]
      intro q4 hq4
      have e5 : (upd H3 q4 (.lst ([V.int (z.fdiv most)] ++ G'.map V.int))) q4 = some (.lst ((z.fdiv most :: G').map V.int)) := upd_same
      have s5 : Same H (upd H3 q4 (.lst ([V.int (z.fdiv most)] ++ G'.map V.int))) := Same.new' (s2.trans s3) hq4
      have n4 : ¬ B q4 := fun w => by
        obtain ⟨o, e⟩ := hB q4 w
        have e' := (s2.trans s3) q4 o e
        rw [hq4] at e'
        cases e'
      generalize (upd H3 q4 (.lst ([V.int (z.fdiv most)] ++ G'.map V.int))) = H5 at e5 s5
      simp only [x_seq, x_if, x_test, x_B, x_op, x_un, x_varS, x_var0, x_c, x_I0, x_I, x_U, x_bl, x_ret, x_next, x_asg, x_name, x_set0, x_setS, x_drop, x_cb, x_cons, x_nil, x_int1, x_abs1, x_max2, x_gcd, x_gsub, x_sl, x_part, x_nopart, x_int, x_call, x_lst, x_tup, x_not, x_and, x_or, x_andV, x_orV, x_notV, x_ifE, x_eqI, x_neI, x_eqB, x_neB, x_tbm, decide_eq_true_eq, List.append_nil, List.nil_append, List.cons_append, x_setL (s5 _ _ h1) ix0]
      exact ⟨hmost, fin q4 H5 (z.fdiv most :: G') n4 hG e5 s5⟩
    · simp only [x_seq, x_if, x_test, x_B, x_op, x_un, x_varS, x_var0, x_c, x_I0, x_I, x_U, x_bl, x_ret, x_next, x_asg, x_name, x_set0, x_setS, x_drop, x_cb, x_cons, x_nil, x_int1, x_abs1, x_max2, x_gcd, x_gsub, x_sl, x_part, x_nopart, x_int, x_call, x_lst, x_tup, x_not, x_and, x_or, x_andV, x_orV, x_notV, x_ifE, x_eqI, x_neI, x_eqB, x_neB, x_tbm, decide_eq_true_eq, List.append_nil, List.nil_append, List.cons_append, x_setL hP2 ix0]
      exact ⟨hmost, fin q2 H2 G' n2 (by simp only [List.length_cons] at hG; omega) e2 s2⟩
  · -- an int reckoned of the smalls
    have h4 : (upd H P (.lst [.ref g, .ref s, .int (c + 1)])) P = some (.lst [.ref g, .ref s, .int (c + 1)]) := upd_same
    have h5 : (upd H P (.lst [.ref g, .ref s, .int (c + 1)])) s = some (.lst (S.map V.int)) := by
      rw [upd_ne nps]
      exact h3
    have hp4 : PoolB B (upd H P (.lst [.ref g, .ref s, .int (c + 1)])) P := ⟨g, s, G, S, c + 1, ⟨h4, by rw [upd_ne npg]; exact h2, h5, hG, hS, hS0⟩, bg, bs⟩
    have k4 : Keep P H (upd H P (.lst [.ref g, .ref s, .int (c + 1)])) := Keep.at (Keep.refl _ _)
    have es : ([V.ref g, .ref s, .int c].set 2 (.int (c + 1))) = [V.ref g, .ref s, .int (c + 1)] := rfl
    have b1 : atI [V.ref g, .ref s, .int (c + 1)] 1 = some (.ref s) := rfl
    simp only [x_seq, x_if, x_test, x_B, x_op, x_un, x_varS, x_var0, x_c, x_I0, x_I, x_U, x_bl, x_ret, x_next, x_asg, x_name, x_set0, x_setS, x_drop, x_cb, x_cons, x_nil, x_int1, x_abs1, x_max2, x_gcd, x_gsub, x_sl, x_part, x_nopart, x_int, x_call, x_lst, x_tup, x_not, x_and, x_or, x_andV, x_orV, x_notV, x_ifE, x_eqI, x_neI, x_eqB, x_neB, x_tbm, decide_eq_true_eq, List.append_nil, List.nil_append, List.cons_append, x_ix h1 a2, x_setL h1 ix2, es]
    generalize (upd H P (.lst [.ref g, .ref s, .int (c + 1)])) = H4 at h4 h5 hp4 k4
    have hSl : (0 : Int) < (S.length : Int) := by
      cases S with
      | nil => exact absurd rfl hS0
      | cons a r => simp only [List.length_cons]; omega
    simp only [x_seq, x_if, x_test, x_B, x_op, x_un, x_varS, x_var0, x_c, x_I0, x_I, x_U, x_bl, x_ret, x_next, x_asg, x_name, x_set0, x_setS, x_drop, x_cb, x_cons, x_nil, x_int1, x_abs1, x_max2, x_gcd, x_gsub, x_sl, x_part, x_nopart, x_int, x_call, x_lst, x_tup, x_not, x_and, x_or, x_andV, x_orV, x_notV, x_ifE, x_eqI, x_neI, x_eqB, x_neB, x_tbm, decide_eq_true_eq, List.append_nil, List.nil_append, List.cons_append, x_ix h4 b1, x_lenA h5, List.length_map]
    refine ⟨small_div (by decide), hSl, ?_⟩
    obtain ⟨sd, hsd⟩ := atI_map (S := S) (i := (c.fdiv 4) % (S.length : Int)) (Int.emod_nonneg _ (by omega)) (Int.emod_lt_of_pos _ hSl)
    simp only [x_seq, x_if, x_test, x_B, x_op, x_un, x_varS, x_var0, x_c, x_I0, x_I, x_U, x_bl, x_ret, x_next, x_asg, x_name, x_set0, x_setS, x_drop, x_cb, x_cons, x_nil, x_int1, x_abs1, x_max2, x_gcd, x_gsub, x_sl, x_part, x_nopart, x_int, x_call, x_lst, x_tup, x_not, x_and, x_or, x_andV, x_orV, x_notV, x_ifE, x_eqI, x_neI, x_eqB, x_neB, x_tbm, decide_eq_true_eq, List.append_nil, List.nil_append, List.cons_append, x_ix h5 hsd]
    refine ⟨mul_lit (by decide), mul_lit (by decide), by decide, ?_⟩
    generalize (sd * 48271 + c * 69621 + 12345) = m0
    have hm0 : -(2 ^ 64) < m0 % 2147483647 ∧ m0 % 2147483647 < 2 ^ 64 := by omega
    refine ⟨mul_lit hm0, mul_lit (by decide), by decide, ?_⟩
    generalize (m0 % 2147483647 * (m0 % 2147483647) + c * 40692 + 7) = m1
    have hm1 : -(2 ^ 64) < m1 % 2147483399 ∧ m1 % 2147483399 < 2 ^ 64 := by omega
    refine ⟨mul_lit hm1, by decide, small_div (by decide), hmost, ?_⟩
    exact k _ _ hp4 k4 (Int.emod_nonneg _ (by omega)) (fun _ => Int.emod_lt_of_pos _ hmost) (fun z => absurd z (by omega))

/-- a new pool of the script -/
def spPoolB (K : PySem.W.Frag) : Sp := fun vs H Q _ => ∃ (a : Addr) (ns : List Int), vs = [.ref a] ∧ SqL K H a (ns.map V.int) ∧ ns.length ≤ 63 ∧ ∀ (P : Addr) (H' : Hp), PoolB (fun _ => False) H' P → Same H H' → Q (.ref P) H'
theorem pure_poolB {K : PySem.W.Frag} (vs : List V) (H : Hp) (Q : VK) (E : XK) (h : spPoolB K vs H Q E) : t_pool K { nx := fun _ H' => Q .non H', rt := Q } (start ["script", "greats", "smalls", "cell"] vs) H := by
  obtain ⟨a, ns, rfl, hS, hn, k⟩ := h
  show t_pool K _ [some (.ref a), none, none, none] H
  unfold t_pool
  simp only [x_seq, x_if, x_test, x_B, x_op, x_un, x_varS, x_var0, x_c, x_I0, x_I, x_U, x_bl, x_ret, x_next, x_asg, x_name, x_set0, x_setS, x_drop, x_cb, x_cons, x_nil, x_int1, x_abs1, x_max2, x_gcd, x_gsub, x_sl, x_part, x_nopart, x_int, x_call, x_lst, x_tup, x_not, x_and, x_or, x_andV, x_orV, x_notV, x_ifE, x_eqI, x_neI, x_eqB, x_neB, x_tbm, decide_eq_true_eq, List.append_nil, List.nil_append, List.cons_append]
  refine ⟨by decide, fun g hg => ⟨by decide, fun s hs => ?_⟩⟩
  have ngs : s ≠ g := fun e => by
    subst e
    rw [upd_same] at hs
    cases hs
  have s0 : Same H (upd (upd H g (.lst [])) s (.lst [])) := Same.new' (Same.new hg) hs
  have hs0 : H s = none := (Same.new hg).free hs
  refine ⟨_, rfl, a, rfl, ⟨_, s0.seq hS⟩, for_list (K := K) (a := a) (xs := ns.map V.int) (fun i σ H' => ∃ (G S : List Int) (cl : Option V), σ = [some (.ref a), some (.ref g), some (.ref s), cl] ∧ H' g = some (.lst (G.map V.int)) ∧ H' s = some (.lst (S.map V.int)) ∧ G.length ≤ i ∧ S.length ≤ i ∧ Same H H')
    ⟨[], [], none, rfl, by rw [upd_ne ngs.symm, upd_same]; rfl, by rw [upd_same]; rfl, Nat.le_refl _, Nat.le_refl _, s0⟩ (fun i σ H' _ ⟨_, _, _, _, _, _, _, _, s1⟩ => s1.seq hS) ?_ ?_⟩
  · rintro i y σ H' hi ⟨G, S, cl, rfl, h1, h2, l1, l2, s1⟩
    have hil : i < ns.length := by
      have := (List.getElem?_eq_some_iff.mp hi).1
      rwa [List.length_map] at this
    obtain ⟨z, rfl⟩ : ∃ z, y = V.int z := by
      rw [List.getElem?_map] at hi
      cases e : ns[i]? with
      | none => rw [e] at hi; cases hi
      | some z => rw [e] at hi; exact ⟨z, (Option.some.inj hi).symm⟩
    have ha : ∀ (l : List Int) (b : Int), l.map V.int ++ [V.int b] = (l ++ [b]).map V.int := fun l b => by rw [List.map_append]; rfl
    simp only [x_seq, x_if, x_test, x_B, x_op, x_un, x_varS, x_var0, x_c, x_I0, x_I, x_U, x_bl, x_ret, x_next, x_asg, x_name, x_set0, x_setS, x_drop, x_cb, x_cons, x_nil, x_int1, x_abs1, x_max2, x_gcd, x_gsub, x_sl, x_part, x_nopart, x_int, x_call, x_lst, x_tup, x_not, x_and, x_or, x_andV, x_orV, x_notV, x_ifE, x_eqI, x_neI, x_eqB, x_neB, x_tbm, decide_eq_true_eq, List.append_nil, List.nil_append, List.cons_append]
    refine ⟨⟨by decide, by decide, by decide⟩, ?_⟩
    refine ite2 (fun _ => ?_) (fun _ => ?_)
    · refine ⟨ty_lst h1, ?_⟩
      simp only [x_append h1 (by rw [List.length_map]; exact Nat.lt_of_le_of_lt l1 (Nat.lt_of_lt_of_le (show i < 1000 by omega) (by decide)))]
      refine ⟨G ++ [if z < 0 then -z else z], S, _, rfl, by rw [upd_same, ha], by rw [upd_ne ngs]; exact h2, by rw [List.length_append]; simp; omega, by omega, fun b o e => ?_⟩
      rw [upd_ne (ne_of_none e hg)]
      exact s1 b o e
    · refine ⟨ty_lst h2, ?_⟩
      simp only [x_append h2 (by rw [List.length_map]; exact Nat.lt_of_le_of_lt l2 (Nat.lt_of_lt_of_le (show i < 1000 by omega) (by decide)))]
      refine ⟨G, S ++ [if z < 0 then -z else z], _, rfl, by rw [upd_ne ngs.symm]; exact h1, by rw [upd_same, ha], by omega, by rw [List.length_append]; simp; omega, fun b o e => ?_⟩
      rw [upd_ne (ne_of_none e hs0)]
      exact s1 b o e
  · rintro σ H' ⟨G, S, cl, rfl, h1, h2, l1, l2, s1⟩
    rw [List.length_map] at l1 l2
    -- the pool's own list
    have fin : ∀ (H2 : Hp) (S2 : List Int), H2 g = some (.lst (G.map V.int)) → H2 s = some (.lst (S2.map V.int)) → Same H H2 → S2 ≠ [] → S2.length ≤ 64 → ∀ p, H2 p = none → Q (.ref p) (upd H2 p (.lst [.ref g, .ref s, .int 0])) := by
      intro H2 S2 e1 e2 s2 ne l p hp
      refine k p _ ⟨g, s, G, S2, 0, ⟨upd_same, ?_, ?_, by omega, l, ne⟩, fun z => z.elim, fun z => z.elim⟩ (Same.new' s2 hp)
      · rw [upd_ne (ne_of_none e1 hp)]
        exact e1
      · rw [upd_ne (ne_of_none e2 hp)]
        exact e2
    simp only [x_seq, x_if, x_test, x_B, x_op, x_un, x_varS, x_var0, x_c, x_I0, x_I, x_U, x_bl, x_ret, x_next, x_asg, x_name, x_set0, x_setS, x_drop, x_cb, x_cons, x_nil, x_int1, x_abs1, x_max2, x_gcd, x_gsub, x_sl, x_part, x_nopart, x_int, x_call, x_lst, x_tup, x_not, x_and, x_or, x_andV, x_orV, x_notV, x_ifE, x_eqI, x_neI, x_eqB, x_neB, x_tbm, decide_eq_true_eq, List.append_nil, List.nil_append, List.cons_append, x_lenA h2, x_lenA h1, List.length_map]
    refine ite2 (fun hz => ?_) (fun hz => ?_)
    · refine ⟨ty_lst h2, ?_⟩
      simp only [x_append h2 (by rw [List.length_map]; exact Nat.lt_of_le_of_lt l2 (Nat.lt_of_lt_of_le (show ns.length < 1000 by omega) (by decide)))]
      have hS0 : S = [] := by
        cases S with
        | nil => rfl
        | cons a r => simp only [List.length_cons] at hz; omega
      subst hS0
      refine ⟨(by show 3 ≤ sizeLine; decide), fin _ [(G.length : Int)] (by rw [upd_ne ngs.symm]; exact h1) (by rw [upd_same]; rfl) (fun b o e => ?_) (by simp) (by simp)⟩
      rw [upd_ne (ne_of_none e hs0)]
      exact s1 b o e
    · exact ⟨(by show 3 ≤ sizeLine; decide), fin _ S h1 h2 s1 (fun e => hz (by subst e; rfl)) (by omega)⟩

theorem PoolB.same {B : Addr → Prop} {H H' : Hp} {P : Addr} (h : PoolB B H P) (k : Same H H') : PoolB B H' P := by
  obtain ⟨g, s, G, S, c, ⟨h1, h2, h3, h4, h5, h6⟩, h7⟩ := h
  exact ⟨g, s, G, S, c, ⟨k _ _ h1, k _ _ h2, k _ _ h3, h4, h5, h6⟩, h7⟩
/-- one more list that is none of the pool's -/
theorem PoolB.more {B : Addr → Prop} {H : Hp} {P F : Addr} {o : HO} (h : PoolB B H P) (n : H F = none) : PoolB (fun b => B b ∨ b = F) (upd H F o) P := by
  obtain ⟨g, s, G, S, c, ⟨h1, h2, h3, h4, h5, h6⟩, bg, bs⟩ := h
  have k : Same H (upd H F o) := Same.new n
  refine ⟨g, s, G, S, c, ⟨k _ _ h1, k _ _ h2, k _ _ h3, h4, h5, h6⟩, ?_, ?_⟩
  · rintro (z | rfl)
    · exact bg z
    · rw [h2] at n
      cases n
  · rintro (z | rfl)
    · exact bs z
    · rw [h3] at n
      cases n
theorem PoolB.less {B B' : Addr → Prop} {H : Hp} {P : Addr} (h : PoolB B H P) (l : ∀ b, B' b → B b) : PoolB B' H P := by
  obtain ⟨g, s, G, S, c, h1, bg, bs⟩ := h
  exact ⟨g, s, G, S, c, h1, fun z => bg (l _ z), fun z => bs (l _ z)⟩
/-- a list of B is written -/
theorem PoolB.put {B : Addr → Prop} {H : Hp} {P F : Addr} {o : HO} (h : PoolB B H P) (b : B F) (n : F ≠ P) : PoolB B (upd H F o) P := by
  obtain ⟨g, s, G, S, c, ⟨h1, h2, h3, h4, h5, h6⟩, bg, bs⟩ := h
  refine ⟨g, s, G, S, c, ⟨?_, ?_, ?_, h4, h5, h6⟩, bg, bs⟩
  · rw [upd_ne (Ne.symm n)]; exact h1
  · have q : g ≠ F := fun e => bg (by rw [e]; exact b)
    rw [upd_ne q]
    exact h2
  · have q : s ≠ F := fun e => bs (by rw [e]; exact b)
    rw [upd_ne q]
    exact h3
theorem PoolB.there {B : Addr → Prop} {H : Hp} {P : Addr} (h : PoolB B H P) : ∃ xs, H P = some (.lst xs) := by
  obtain ⟨g, s, G, S, c, h1, _⟩ := h
  exact ⟨_, h1.p⟩
theorem tup_off {B : Addr → Prop} {H : Hp} {P o : Addr} {ys : List V} (h : PoolB B H P) (t : H o = some (.tup ys)) : o ≠ P := by
  obtain ⟨xs, e⟩ := h.there
  exact lst_tup e t
end SpX

set_option Elab.async false
set_option linter.all false
set_option maxRecDepth 100000
set_option maxHeartbeats 2000000
namespace SpX
open PySem PySem.Spec L2
theorem x_never {D : Ends} {σ : L2.St} {H : Hp} : tNever D σ H = False := rfl
def tRaise0 (Z : Addr) (E : XK) : TS := fun _ _ H => E (.ref Z) none H
/-! ### sizes -/
/-- below two to the n -/
def Bd (n : Nat) (a : Int) : Prop := a.natAbs < 2 ^ n
theorem Bd.mono {m n : Nat} {a : Int} (h : Bd m a) (l : m ≤ n) : Bd n a := Nat.lt_of_lt_of_le h (Nat.pow_le_pow_right (by decide) l)
theorem Bd.mul {m n : Nat} {a b : Int} (h : Bd m a) (h' : Bd n b) : Bd (m + n) (a * b) := by
  unfold Bd at *
  rw [Int.natAbs_mul, Nat.pow_add]
  exact Nat.mul_lt_mul_of_lt_of_le h (Nat.le_of_lt h') (Nat.pos_of_ne_zero (by have := Nat.pow_pos (n := n) (show 0 < 2 by decide); omega))
theorem Bd.add {n : Nat} {a b : Int} (h : Bd n a) (h' : Bd n b) : Bd (n + 1) (a + b) := by
  unfold Bd at *
  rw [Nat.pow_succ]
  have := Int.natAbs_add_le a b
  omega
theorem Bd.neg {n : Nat} {a : Int} (h : Bd n a) : Bd n (-a) := by
  unfold Bd at *
  rwa [Int.natAbs_neg]
theorem Bd.sub {n : Nat} {a b : Int} (h : Bd n a) (h' : Bd n b) : Bd (n + 1) (a - b) := by
  rw [Int.sub_eq_add_neg]
  exact h.add h'.neg
theorem Bd.abs {n : Nat} {a : Int} (h : Bd n a) : Bd n (if a < 0 then -a else a) := by
  split
  · exact h.neg
  · exact h
theorem Bd.of {n : Nat} {a b : Int} (h : Bd n a) (l : b.natAbs ≤ a.natAbs) : Bd n b := Nat.lt_of_le_of_lt l h
theorem Bd.one {n : Nat} (h : 0 < n) : Bd n 1 := Nat.one_lt_two_pow (by omega)
theorem Bd.ok {m n : Nat} {a b : Int} (h : Bd m a) (h' : Bd n b) (h0 : 0 < m) (h1 : 0 < n) (l : m + n ≤ 1000000) : IntMulOk a b := mul_wide h h' h0 h1 l
theorem Bd.ok2 {a b : Int} (h : Bd 2000 a) (h' : Bd 2000 b) : IntMulOk a b := mul_wide h h' (by decide) (by decide) (by decide)
/-! ### promises -/
/-- t / b is in lowest terms -/
structure Low (t b : Int) : Prop where
  pos : 0 < b
  cop : Nat.gcd t.natAbs b.natAbs = 1
theorem Norm.low {t b x y : Int} (h : Norm t b x y) : Low t b := ⟨h.pos, h.cop⟩
theorem Low.int {i : Int} : Low i 1 := ⟨by decide, by simp⟩
/-- a number: an int, or a ratio t / b -/
inductive NumAt (C : Addr) (H : Hp) : V → Int → Int → Prop
  | int (i : Int) : NumAt C H (.int i) i 1
  | rat {p : Addr} {t b : Int} (h : RatAt C H p t b) : NumAt C H (.ref p) t b
/-- the constructor: x / y in lowest terms, or the error at Z -/
def spInit (C Z : Addr) : Sp := fun vs H Q E => ∃ (p dx : Addr) (x y : Int), vs = [.ref p, .int x, .int y] ∧ H p = some (.ins C dx []) ∧ Bd 8000 x ∧ Bd 8000 y ∧
  (y = 0 → E (.ref Z) none H) ∧ (y ≠ 0 → ∀ t b, Norm t b x y → Q .non (upd H p (.ins C dx (RF t b))))
/-- what comes back is a new ratio, x / y in lowest terms -/
def Gives (C : Addr) (H : Hp) (x y : Int) (Q : VK) : Prop := ∀ (r : Addr) (H' : Hp) (n d : Int), RatAt C H' r n d → Norm n d x y → Same H H' → Q (.ref r) H'
theorem make_nz {C Z p dx : Addr} {H : Hp} {Q : VK} {E : XK} {x y : Int} (bx : Bd 8000 x) (by' : Bd 8000 y) (hy : y ≠ 0) (k : Gives C H x y Q) (np : H p = none) (nd : H dx = none) (ne : dx ≠ p) :
    spInit C Z [.ref p, .int x, .int y] (upd (upd H dx (.own p)) p (.ins C dx [])) (fun v H2 => v = .non ∧ Q (.ref p) H2) E := by
  refine ⟨p, dx, x, y, rfl, upd_same, bx, by', fun e => absurd e hy, fun _ t b hn => ⟨rfl, ?_⟩⟩
  refine k p _ t b ⟨dx, upd_same⟩ hn fun c o e => ?_
  rw [upd_ne (ne_of_none e np), upd_ne (ne_of_none e np), upd_ne (ne_of_none e nd)]
  exact e
theorem make_z {C Z p dx : Addr} {H : Hp} {Q : VK} {E : XK} {x : Int} (bx : Bd 8000 x) (k : ∀ H', Same H H' → E (.ref Z) none H') (np : H p = none) (nd : H dx = none) :
    spInit C Z [.ref p, .int x, .int 0] (upd (upd H dx (.own p)) p (.ins C dx [])) (fun v H2 => v = .non ∧ Q (.ref p) H2) E := by
  refine ⟨p, dx, x, 0, rfl, upd_same, bx, by unfold Bd; exact Nat.pow_pos (by decide), fun _ => k _ fun c o e => ?_, fun h => absurd rfl h⟩
  rw [upd_ne (ne_of_none e np), upd_ne (ne_of_none e nd)]
  exact e
def addN (t b u c : Int) : Int := t * c + u * b
def subN (t b u c : Int) : Int := t * c - u * b
def mulN (t b u c : Int) : Int := t * u
def raddN (t b u c : Int) : Int := t * c + u * b
def rsubN (t b u c : Int) : Int := u * b - t * c
def rmulN (t b u c : Int) : Int := t * u
/-- an operator of a ratio and a number -/
def spBin (C : Addr) (N : Int → Int → Int → Int → Int) : Sp := fun vs H Q _ => ∃ (p : Addr) (v : V) (t b u c : Int), vs = [.ref p, v] ∧ RatAt C H p t b ∧ NumAt C H v u c ∧ Low t b ∧ Low u c ∧ Bd 2000 t ∧ Bd 2000 b ∧ Bd 2000 u ∧ Bd 2000 c ∧
  Gives C H (N t b u c) (b * c) Q
def spRef (C : Addr) (N : Int → Int → Int → Int → Int) : Sp := fun vs H Q _ => ∃ (p : Addr) (t b u : Int), vs = [.ref p, .int u] ∧ RatAt C H p t b ∧ Low t b ∧ Bd 2000 t ∧ Bd 2000 b ∧ Bd 2000 u ∧ Gives C H (N t b u 1) (b * 1) Q
def spUn (C : Addr) (N : Int → Int) : Sp := fun vs H Q _ => ∃ (p : Addr) (t b : Int), vs = [.ref p] ∧ RatAt C H p t b ∧ Low t b ∧ Bd 2000 t ∧ Bd 2000 b ∧ Gives C H (N t) b Q
def spEq (C : Addr) : Sp := fun vs H Q _ => ∃ (p : Addr) (v : V) (t b u c : Int), vs = [.ref p, v] ∧ RatAt C H p t b ∧ NumAt C H v u c ∧ Low t b ∧ Low u c ∧ Q (.bl (decide (t * c = u * b))) H
def spBool (C : Addr) : Sp := fun vs H Q _ => ∃ (p : Addr) (t b : Int), vs = [.ref p] ∧ RatAt C H p t b ∧ Q (.bl (t != 0)) H
def spOver (C Z : Addr) : Sp := fun vs H Q E => ∃ (p : Addr) (v : V) (t b u c : Int), vs = [.ref p, v] ∧ RatAt C H p t b ∧ NumAt C H v u c ∧ Low t b ∧ Low u c ∧ Bd 2000 t ∧ Bd 2000 b ∧ Bd 2000 u ∧ Bd 2000 c ∧
  (u = 0 → ∀ H', Same H H' → E (.ref Z) none H') ∧ (u ≠ 0 → Gives C H (t * c) (b * u) Q)
def spSign (C : Addr) : Sp := fun vs H Q _ => ∃ (p : Addr) (t b : Int), vs = [.ref p] ∧ RatAt C H p t b ∧ Q (.int t.sign) H
def spCompare (C : Addr) : Sp := fun vs H Q _ => ∃ (p q : Addr) (t b u c : Int), vs = [.ref p, .ref q] ∧ RatAt C H p t b ∧ RatAt C H q u c ∧ Low t b ∧ Low u c ∧ Bd 2000 t ∧ Bd 2000 b ∧ Bd 2000 u ∧ Bd 2000 c ∧
  ∀ H', Same H H' → Q (.int (t * c - u * b).sign) H'
theorem Low.nz {t b : Int} (h : Low t b) : b ≠ 0 := by have := h.pos; omega
theorem Low.same {t b u c : Int} (h : Low t b) (h' : Low u c) (e : t * c = u * b) : t = u ∧ b = c := by
  have n : Norm t b u c := ⟨h.pos, e, h.cop⟩
  have m : Norm u c t b := ⟨h'.pos, e.symm, h'.cop⟩
  have h1 := n.le h'.nz
  have h2 := m.le h.nz
  have p1 := h.pos
  have p2 := h'.pos
  have eb : b = c := by omega
  subst eb
  exact ⟨Int.eq_of_mul_eq_mul_right h.nz e, rfl⟩
def t_init (K : PySem.W.Frag) (C Z : Addr) (E : XK) : TS :=
    (tSeq (tIfS (tTest (tOp rEq (tVar 2) (tC (.int 0)))) (tRaise0 Z E) tNext)
    (tSeq (tAsg (tCB rGcd (tCons (tVar 1) (tCons (tVar 2) tNil))) (gName 3))
    (tSeq (tIfS (tTest (tOp (rI0 fun i j => .bl (decide (i < j))) (tVar 2) (tC (.int 0)))) (tAsg (tUn (rU fun i => .int (-i)) (tVar 3)) (gName 3)) tNext)
    (tSeq (sFld K (tVar 0) (tOp (rI CDivF fun i j => .int (i.fdiv j)) (tVar 1) (tVar 3)) "top")
    (sFld K (tVar 0) (tOp (rI CDivF fun i j => .int (i.fdiv j)) (tVar 2) (tVar 3)) "bottom")))))
def t_add (K : PySem.W.Frag) (C Z : Addr) (E : XK) : TS :=
    (tSeq (tIfS (tB (tCB (rIsA C) (tCons (tVar 1) (tCons (tC (.ty "int")) tNil)))) (tRet (tMake C (spInit C Z) [] E0 (tCons (tOp (rI0 fun i j => .int (i + j)) (tUn (rFld C "top") (tVar 0)) (tOp (rI IntMulOk fun i j => .int (i * j)) (tVar 1) (tUn (rFld C "bottom") (tVar 0)))) (tCons (tUn (rFld C "bottom") (tVar 0)) tNil)))) tNext)
    (tSeq (tIfS (tNot (tB (tCB (rIsA C) (tCons (tVar 1) (tCons (tC (.ref C)) tNil))))) tNever tNext)
    (tRet (tMake C (spInit C Z) [] E0 (tCons (tOp (rI0 fun i j => .int (i + j)) (tOp (rI IntMulOk fun i j => .int (i * j)) (tUn (rFld C "top") (tVar 0)) (tUn (rFld C "bottom") (tVar 1))) (tOp (rI IntMulOk fun i j => .int (i * j)) (tUn (rFld C "top") (tVar 1)) (tUn (rFld C "bottom") (tVar 0)))) (tCons (tOp (rI IntMulOk fun i j => .int (i * j)) (tUn (rFld C "bottom") (tVar 0)) (tUn (rFld C "bottom") (tVar 1))) tNil))))))
def t_sub (K : PySem.W.Frag) (C Z : Addr) (E : XK) : TS :=
    (tSeq (tIfS (tB (tCB (rIsA C) (tCons (tVar 1) (tCons (tC (.ty "int")) tNil)))) (tRet (tMake C (spInit C Z) [] E0 (tCons (tOp (rI0 fun i j => .int (i - j)) (tUn (rFld C "top") (tVar 0)) (tOp (rI IntMulOk fun i j => .int (i * j)) (tVar 1) (tUn (rFld C "bottom") (tVar 0)))) (tCons (tUn (rFld C "bottom") (tVar 0)) tNil)))) tNext)
    (tSeq (tIfS (tNot (tB (tCB (rIsA C) (tCons (tVar 1) (tCons (tC (.ref C)) tNil))))) tNever tNext)
    (tRet (tMake C (spInit C Z) [] E0 (tCons (tOp (rI0 fun i j => .int (i - j)) (tOp (rI IntMulOk fun i j => .int (i * j)) (tUn (rFld C "top") (tVar 0)) (tUn (rFld C "bottom") (tVar 1))) (tOp (rI IntMulOk fun i j => .int (i * j)) (tUn (rFld C "top") (tVar 1)) (tUn (rFld C "bottom") (tVar 0)))) (tCons (tOp (rI IntMulOk fun i j => .int (i * j)) (tUn (rFld C "bottom") (tVar 0)) (tUn (rFld C "bottom") (tVar 1))) tNil))))))
def t_mul (K : PySem.W.Frag) (C Z : Addr) (E : XK) : TS :=
    (tSeq (tIfS (tB (tCB (rIsA C) (tCons (tVar 1) (tCons (tC (.ty "int")) tNil)))) (tRet (tMake C (spInit C Z) [] E0 (tCons (tOp (rI IntMulOk fun i j => .int (i * j)) (tUn (rFld C "top") (tVar 0)) (tVar 1)) (tCons (tUn (rFld C "bottom") (tVar 0)) tNil)))) tNext)
    (tSeq (tIfS (tNot (tB (tCB (rIsA C) (tCons (tVar 1) (tCons (tC (.ref C)) tNil))))) tNever tNext)
    (tRet (tMake C (spInit C Z) [] E0 (tCons (tOp (rI IntMulOk fun i j => .int (i * j)) (tUn (rFld C "top") (tVar 0)) (tUn (rFld C "top") (tVar 1))) (tCons (tOp (rI IntMulOk fun i j => .int (i * j)) (tUn (rFld C "bottom") (tVar 0)) (tUn (rFld C "bottom") (tVar 1))) tNil))))))
def t_neg (K : PySem.W.Frag) (C Z : Addr) (E : XK) : TS :=
    (tRet (tMake C (spInit C Z) [] E0 (tCons (tUn (rU fun i => .int (-i)) (tUn (rFld C "top") (tVar 0))) (tCons (tUn (rFld C "bottom") (tVar 0)) tNil))))
def t_radd (K : PySem.W.Frag) (C Z : Addr) (E : XK) : TS :=
    (tRet (tOp (rOwnI C (spBin C addN) E0) (tVar 0) (tVar 1)))
def t_rsub (K : PySem.W.Frag) (C Z : Addr) (E : XK) : TS :=
    (tRet (tOp (rOwnI C (spBin C addN) E0) (tUn (rOwnU C (spUn C (fun t => -t)) E0) (tVar 0)) (tVar 1)))
def t_rmul (K : PySem.W.Frag) (C Z : Addr) (E : XK) : TS :=
    (tRet (tOp (rOwnI C (spBin C mulN) E0) (tVar 0) (tVar 1)))
def t_abs (K : PySem.W.Frag) (C Z : Addr) (E : XK) : TS :=
    (tRet (tMake C (spInit C Z) [] E0 (tCons (tCB rAbs1 (tCons (tUn (rFld C "top") (tVar 0)) tNil)) (tCons (tUn (rFld C "bottom") (tVar 0)) tNil))))
def t_eq (K : PySem.W.Frag) (C Z : Addr) (E : XK) : TS :=
    (tSeq (tIfS (tB (tCB (rIsA C) (tCons (tVar 1) (tCons (tC (.ty "int")) tNil)))) (tRet (tAndV (tOp rEq (tUn (rFld C "bottom") (tVar 0)) (tC (.int 1))) (tOp rEq (tUn (rFld C "top") (tVar 0)) (tVar 1)))) tNext)
    (tRet (tAndV (tCB (rIsA C) (tCons (tVar 1) (tCons (tC (.ref C)) tNil))) (tAndV (tOp rEq (tUn (rFld C "top") (tVar 0)) (tUn (rFld C "top") (tVar 1))) (tOp rEq (tUn (rFld C "bottom") (tVar 0)) (tUn (rFld C "bottom") (tVar 1)))))))
def t_bool (K : PySem.W.Frag) (C Z : Addr) (E : XK) : TS :=
    (tRet (tCB rBool1 (tCons (tUn (rFld C "top") (tVar 0)) tNil)))
def t_over (K : PySem.W.Frag) (C Z : Addr) (E : XK) : TS :=
    (tSeq (tIfS (tB (tCB (rIsA C) (tCons (tVar 1) (tCons (tC (.ty "int")) tNil)))) (tRet (tMake C (spInit C Z) [] E (tCons (tUn (rFld C "top") (tVar 0)) (tCons (tOp (rI IntMulOk fun i j => .int (i * j)) (tUn (rFld C "bottom") (tVar 0)) (tVar 1)) tNil)))) tNext)
    (tRet (tMake C (spInit C Z) [] E (tCons (tOp (rI IntMulOk fun i j => .int (i * j)) (tUn (rFld C "top") (tVar 0)) (tUn (rFld C "bottom") (tVar 1))) (tCons (tOp (rI IntMulOk fun i j => .int (i * j)) (tUn (rFld C "bottom") (tVar 0)) (tUn (rFld C "top") (tVar 1))) tNil)))))
def t_sign (K : PySem.W.Frag) (C Z : Addr) (E : XK) : TS :=
    (tSeq (tIfS (tTest (tOp (rI0 fun i j => .bl (decide (i < j))) (tUn (rFld C "top") (tVar 0)) (tC (.int 0)))) (tRet (tUn (rU fun i => .int (-i)) (tC (.int 1)))) tNext)
    (tRet (tIf (tTest (tOp (rI0 fun i j => .bl (decide (j < i))) (tUn (rFld C "top") (tVar 0)) (tC (.int 0)))) (tC (.int 1)) (tC (.int 0)))))
def t_compare (K : PySem.W.Frag) (C Z : Addr) (E : XK) : TS :=
    (tRet (tMeth C "sign" (spSign C) [] E0 (tOp (rOwn2 C (spBin C subN) E0) (tVar 0) (tVar 1)) tNil))
/-- what a text must say of the class's fields -/
structure FldOk (K : PySem.W.Frag) (C : Addr) : Prop where
  cl : Cls K C
  nt : NoAttr K C "top"
  nb : NoAttr K C "bottom"
section
variable {K : PySem.W.Frag} {C Z : Addr}
theorem pure_init (T : FldOk K C) (vs : List V) (H : Hp) (Q : VK) (E : XK) (h : spInit C Z vs H Q E) : t_init K C Z E { nx := fun _ H' => Q .non H', rt := Q } (start ["self", "top", "bottom", "common"] vs) H := by
  obtain ⟨p, dx, x, y, rfl, hp, bx, by', kz, kn⟩ := h
  show t_init K C Z E _ [some (.ref p), some (.int x), some (.int y), none] H
  unfold t_init
  simp only [x_seq, x_if, x_test, x_B, x_op, x_un, x_varS, x_var0, x_c, x_I0, x_I, x_U, x_bl, x_ret, x_next, x_asg, x_name, x_set0, x_setS, x_drop, x_cb, x_cons, x_nil, x_int1, x_abs1, x_max2, x_gcd, x_gsub, x_sl, x_part, x_nopart, x_int, x_call, x_lst, x_tup, x_not, x_and, x_or, x_andV, x_orV, x_notV, x_ifE, x_eqI, x_neI, x_eqB, x_neB, x_tbm, x_never, x_make, x_meth, x_isII, x_isIC, x_bool1, decide_eq_true_eq, Bool.false_eq_true, if_false, if_true, List.append_nil, List.nil_append, List.cons_append]
  refine ite2 (fun hy => kz hy) fun hy => ?_
  have fin : ∀ g : Int, g = (if y < 0 then -((Nat.gcd x.natAbs y.natAbs : Nat) : Int) else ((Nat.gcd x.natAbs y.natAbs : Nat) : Int)) →
      tSeq (sFld K (tVar 0) (tOp (rI CDivF fun i j => .int (i.fdiv j)) (tVar 1) (tVar 3)) "top") (sFld K (tVar 0) (tOp (rI CDivF fun i j => .int (i.fdiv j)) (tVar 2) (tVar 3)) "bottom")
        { nx := fun _ H' => Q .non H', rt := Q } [some (.ref p), some (.int x), some (.int y), some (.int g)] H := by
    intro g hg
    obtain ⟨gn, ga, hN⟩ := norm_mk hy hg
    have gb : g.natAbs < 2 ^ 8000 := by
      rw [ga]
      exact Nat.lt_of_le_of_lt (Nat.gcd_le_right _ (by omega)) by'
    rw [x_seq]
    unfold sFld
    simp only [x_seq, x_if, x_test, x_B, x_op, x_un, x_varS, x_var0, x_c, x_I0, x_I, x_U, x_bl, x_ret, x_next, x_asg, x_name, x_set0, x_setS, x_drop, x_cb, x_cons, x_nil, x_int1, x_abs1, x_max2, x_gcd, x_gsub, x_sl, x_part, x_nopart, x_int, x_call, x_lst, x_tup, x_not, x_and, x_or, x_andV, x_orV, x_notV, x_ifE, x_eqI, x_neI, x_eqB, x_neB, x_tbm, x_never, x_make, x_meth, x_isII, x_isIC, x_bool1, decide_eq_true_eq, Bool.false_eq_true, if_false, if_true, List.append_nil, List.nil_append, List.cons_append]
    refine ⟨any_div gn gb, p, C, dx, [], rfl, hp, T.cl, T.nt, by decide, any_div gn gb, p, C, dx, _, rfl, upd_same, T.cl, T.nb, by show 1 < 1000; decide, ?_⟩
    have e := kn hy _ _ hN
    rw [upd_upd]
    exact e
  refine ite2 (fun hlt => ?_) fun hge => ?_
  · exact fin _ (by rw [if_pos hlt])
  · exact fin _ (by rw [if_neg hge])
theorem pure_add (vs : List V) (H : Hp) (Q : VK) (E : XK) (h : spBin C addN vs H Q E) : t_add K C Z E { nx := fun _ H' => Q .non H', rt := Q } (start ["self", "other"] vs) H := by
  obtain ⟨p, v, t, b, u, c, rfl, ⟨dx, hp⟩, hv, l1, l2, bt, bb, bu, bc, k⟩ := h
  have nb := l1.nz
  have nc := l2.nz
  unfold addN at k
  show t_add K C Z E _ [some (.ref p), some v] H
  unfold t_add
  cases hv with
  | int u =>
    simp only [x_seq, x_if, x_test, x_B, x_op, x_un, x_varS, x_var0, x_c, x_I0, x_I, x_U, x_bl, x_ret, x_next, x_asg, x_name, x_set0, x_setS, x_drop, x_cb, x_cons, x_nil, x_int1, x_abs1, x_max2, x_gcd, x_gsub, x_sl, x_part, x_nopart, x_int, x_call, x_lst, x_tup, x_not, x_and, x_or, x_andV, x_orV, x_notV, x_ifE, x_eqI, x_neI, x_eqB, x_neB, x_tbm, x_never, x_make, x_meth, x_isII, x_isIC, x_bool1, decide_eq_true_eq, Bool.false_eq_true, if_false, if_true, List.append_nil, List.nil_append, List.cons_append, x_top hp, x_bot hp, if_true]
    rw [Int.mul_one, Int.mul_one] at k
    exact ⟨bu.ok2 bb, fun q d n1 n2 n3 => make_nz ((bt.mono (by decide)).add (bu.mul bb) |>.mono (by decide)) (bb.mono (by decide)) nb k n1 n2 n3⟩
  | rat hq =>
    obtain ⟨dy, hq⟩ := hq
    simp only [x_seq, x_if, x_test, x_B, x_op, x_un, x_varS, x_var0, x_c, x_I0, x_I, x_U, x_bl, x_ret, x_next, x_asg, x_name, x_set0, x_setS, x_drop, x_cb, x_cons, x_nil, x_int1, x_abs1, x_max2, x_gcd, x_gsub, x_sl, x_part, x_nopart, x_int, x_call, x_lst, x_tup, x_not, x_and, x_or, x_andV, x_orV, x_notV, x_ifE, x_eqI, x_neI, x_eqB, x_neB, x_tbm, x_never, x_make, x_meth, x_isII, x_isIC, x_bool1, decide_eq_true_eq, Bool.false_eq_true, if_false, if_true, List.append_nil, List.nil_append, List.cons_append, x_top hp, x_bot hp, x_top hq, x_bot hq, x_isRI hq, x_isRC hq, if_true, Bool.false_eq_true, if_false, Bool.not_true]
    exact ⟨bt.ok2 bc, bu.ok2 bb, bb.ok2 bc, fun q d n1 n2 n3 => make_nz ((bt.mul bc).add (bu.mul bb) |>.mono (by decide)) ((bb.mul bc).mono (by decide)) (Int.mul_ne_zero nb nc) k n1 n2 n3⟩
theorem pure_sub (vs : List V) (H : Hp) (Q : VK) (E : XK) (h : spBin C subN vs H Q E) : t_sub K C Z E { nx := fun _ H' => Q .non H', rt := Q } (start ["self", "other"] vs) H := by
  obtain ⟨p, v, t, b, u, c, rfl, ⟨dx, hp⟩, hv, l1, l2, bt, bb, bu, bc, k⟩ := h
  have nb := l1.nz
  have nc := l2.nz
  unfold subN at k
  show t_sub K C Z E _ [some (.ref p), some v] H
  unfold t_sub
  cases hv with
  | int u =>
    simp only [x_seq, x_if, x_test, x_B, x_op, x_un, x_varS, x_var0, x_c, x_I0, x_I, x_U, x_bl, x_ret, x_next, x_asg, x_name, x_set0, x_setS, x_drop, x_cb, x_cons, x_nil, x_int1, x_abs1, x_max2, x_gcd, x_gsub, x_sl, x_part, x_nopart, x_int, x_call, x_lst, x_tup, x_not, x_and, x_or, x_andV, x_orV, x_notV, x_ifE, x_eqI, x_neI, x_eqB, x_neB, x_tbm, x_never, x_make, x_meth, x_isII, x_isIC, x_bool1, decide_eq_true_eq, Bool.false_eq_true, if_false, if_true, List.append_nil, List.nil_append, List.cons_append, x_top hp, x_bot hp, if_true]
    rw [Int.mul_one, Int.mul_one] at k
    exact ⟨bu.ok2 bb, fun q d n1 n2 n3 => make_nz ((bt.mono (by decide)).sub (bu.mul bb) |>.mono (by decide)) (bb.mono (by decide)) nb k n1 n2 n3⟩
  | rat hq =>
    obtain ⟨dy, hq⟩ := hq
    simp only [x_seq, x_if, x_test, x_B, x_op, x_un, x_varS, x_var0, x_c, x_I0, x_I, x_U, x_bl, x_ret, x_next, x_asg, x_name, x_set0, x_setS, x_drop, x_cb, x_cons, x_nil, x_int1, x_abs1, x_max2, x_gcd, x_gsub, x_sl, x_part, x_nopart, x_int, x_call, x_lst, x_tup, x_not, x_and, x_or, x_andV, x_orV, x_notV, x_ifE, x_eqI, x_neI, x_eqB, x_neB, x_tbm, x_never, x_make, x_meth, x_isII, x_isIC, x_bool1, decide_eq_true_eq, Bool.false_eq_true, if_false, if_true, List.append_nil, List.nil_append, List.cons_append, x_top hp, x_bot hp, x_top hq, x_bot hq, x_isRI hq, x_isRC hq, if_true, Bool.false_eq_true, if_false, Bool.not_true]
    exact ⟨bt.ok2 bc, bu.ok2 bb, bb.ok2 bc, fun q d n1 n2 n3 => make_nz ((bt.mul bc).sub (bu.mul bb) |>.mono (by decide)) ((bb.mul bc).mono (by decide)) (Int.mul_ne_zero nb nc) k n1 n2 n3⟩
theorem pure_mul (vs : List V) (H : Hp) (Q : VK) (E : XK) (h : spBin C mulN vs H Q E) : t_mul K C Z E { nx := fun _ H' => Q .non H', rt := Q } (start ["self", "other"] vs) H := by
  obtain ⟨p, v, t, b, u, c, rfl, ⟨dx, hp⟩, hv, l1, l2, bt, bb, bu, bc, k⟩ := h
  have nb := l1.nz
  have nc := l2.nz
  unfold mulN at k
  show t_mul K C Z E _ [some (.ref p), some v] H
  unfold t_mul
  cases hv with
  | int u =>
    simp only [x_seq, x_if, x_test, x_B, x_op, x_un, x_varS, x_var0, x_c, x_I0, x_I, x_U, x_bl, x_ret, x_next, x_asg, x_name, x_set0, x_setS, x_drop, x_cb, x_cons, x_nil, x_int1, x_abs1, x_max2, x_gcd, x_gsub, x_sl, x_part, x_nopart, x_int, x_call, x_lst, x_tup, x_not, x_and, x_or, x_andV, x_orV, x_notV, x_ifE, x_eqI, x_neI, x_eqB, x_neB, x_tbm, x_never, x_make, x_meth, x_isII, x_isIC, x_bool1, decide_eq_true_eq, Bool.false_eq_true, if_false, if_true, List.append_nil, List.nil_append, List.cons_append, x_top hp, x_bot hp, if_true]
    rw [Int.mul_one] at k
    exact ⟨bt.ok2 bu, fun q d n1 n2 n3 => make_nz ((bt.mul bu).mono (by decide)) (bb.mono (by decide)) nb k n1 n2 n3⟩
  | rat hq =>
    obtain ⟨dy, hq⟩ := hq
    simp only [x_seq, x_if, x_test, x_B, x_op, x_un, x_varS, x_var0, x_c, x_I0, x_I, x_U, x_bl, x_ret, x_next, x_asg, x_name, x_set0, x_setS, x_drop, x_cb, x_cons, x_nil, x_int1, x_abs1, x_max2, x_gcd, x_gsub, x_sl, x_part, x_nopart, x_int, x_call, x_lst, x_tup, x_not, x_and, x_or, x_andV, x_orV, x_notV, x_ifE, x_eqI, x_neI, x_eqB, x_neB, x_tbm, x_never, x_make, x_meth, x_isII, x_isIC, x_bool1, decide_eq_true_eq, Bool.false_eq_true, if_false, if_true, List.append_nil, List.nil_append, List.cons_append, x_top hp, x_bot hp, x_top hq, x_bot hq, x_isRI hq, x_isRC hq, if_true, Bool.false_eq_true, if_false, Bool.not_true]
    exact ⟨bt.ok2 bu, bb.ok2 bc, fun q d n1 n2 n3 => make_nz ((bt.mul bu).mono (by decide)) ((bb.mul bc).mono (by decide)) (Int.mul_ne_zero nb nc) k n1 n2 n3⟩
theorem pure_over (vs : List V) (H : Hp) (Q : VK) (E : XK) (h : spOver C Z vs H Q E) : t_over K C Z E { nx := fun _ H' => Q .non H', rt := Q } (start ["self", "b"] vs) H := by
  obtain ⟨p, v, t, b, u, c, rfl, ⟨dx, hp⟩, hv, l1, l2, bt, bb, bu, bc, kz, k⟩ := h
  have nb := l1.nz
  have nc := l2.nz
  show t_over K C Z E _ [some (.ref p), some v] H
  unfold t_over
  cases hv with
  | int u =>
    simp only [x_seq, x_if, x_test, x_B, x_op, x_un, x_varS, x_var0, x_c, x_I0, x_I, x_U, x_bl, x_ret, x_next, x_asg, x_name, x_set0, x_setS, x_drop, x_cb, x_cons, x_nil, x_int1, x_abs1, x_max2, x_gcd, x_gsub, x_sl, x_part, x_nopart, x_int, x_call, x_lst, x_tup, x_not, x_and, x_or, x_andV, x_orV, x_notV, x_ifE, x_eqI, x_neI, x_eqB, x_neB, x_tbm, x_never, x_make, x_meth, x_isII, x_isIC, x_bool1, decide_eq_true_eq, Bool.false_eq_true, if_false, if_true, List.append_nil, List.nil_append, List.cons_append, x_top hp, x_bot hp, if_true]
    refine ⟨bb.ok2 bu, fun q d n1 n2 n3 => ?_⟩
    by_cases hu : u = 0
    · subst hu
      rw [Int.mul_zero]
      exact make_z (bt.mono (by decide)) (kz rfl) n1 n2
    · have k := k hu
      rw [Int.mul_one] at k
      exact make_nz (bt.mono (by decide)) ((bb.mul bu).mono (by decide)) (Int.mul_ne_zero nb hu) k n1 n2 n3
  | rat hq =>
    obtain ⟨dy, hq⟩ := hq
    simp only [x_seq, x_if, x_test, x_B, x_op, x_un, x_varS, x_var0, x_c, x_I0, x_I, x_U, x_bl, x_ret, x_next, x_asg, x_name, x_set0, x_setS, x_drop, x_cb, x_cons, x_nil, x_int1, x_abs1, x_max2, x_gcd, x_gsub, x_sl, x_part, x_nopart, x_int, x_call, x_lst, x_tup, x_not, x_and, x_or, x_andV, x_orV, x_notV, x_ifE, x_eqI, x_neI, x_eqB, x_neB, x_tbm, x_never, x_make, x_meth, x_isII, x_isIC, x_bool1, decide_eq_true_eq, Bool.false_eq_true, if_false, if_true, List.append_nil, List.nil_append, List.cons_append, x_top hp, x_bot hp, x_top hq, x_bot hq, x_isRI hq, Bool.false_eq_true, if_false]
    refine ⟨bt.ok2 bc, bb.ok2 bu, fun q d n1 n2 n3 => ?_⟩
    by_cases hu : u = 0
    · subst hu
      rw [Int.mul_zero]
      exact make_z ((bt.mul bc).mono (by decide)) (kz rfl) n1 n2
    · exact make_nz ((bt.mul bc).mono (by decide)) ((bb.mul bu).mono (by decide)) (Int.mul_ne_zero nb hu) (k hu) n1 n2 n3
theorem pure_neg (vs : List V) (H : Hp) (Q : VK) (E : XK) (h : spUn C (fun t => -t) vs H Q E) : t_neg K C Z E { nx := fun _ H' => Q .non H', rt := Q } (start ["self"] vs) H := by
  obtain ⟨p, t, b, rfl, ⟨dx, hp⟩, l1, bt, bb, k⟩ := h
  show t_neg K C Z E _ [some (.ref p)] H
  unfold t_neg
  simp only [x_seq, x_if, x_test, x_B, x_op, x_un, x_varS, x_var0, x_c, x_I0, x_I, x_U, x_bl, x_ret, x_next, x_asg, x_name, x_set0, x_setS, x_drop, x_cb, x_cons, x_nil, x_int1, x_abs1, x_max2, x_gcd, x_gsub, x_sl, x_part, x_nopart, x_int, x_call, x_lst, x_tup, x_not, x_and, x_or, x_andV, x_orV, x_notV, x_ifE, x_eqI, x_neI, x_eqB, x_neB, x_tbm, x_never, x_make, x_meth, x_isII, x_isIC, x_bool1, decide_eq_true_eq, Bool.false_eq_true, if_false, if_true, List.append_nil, List.nil_append, List.cons_append, x_top hp, x_bot hp]
  exact fun q d n1 n2 n3 => make_nz (bt.neg.mono (by decide)) (bb.mono (by decide)) l1.nz k n1 n2 n3
theorem pure_abs (vs : List V) (H : Hp) (Q : VK) (E : XK) (h : spUn C (fun t => if t < 0 then -t else t) vs H Q E) : t_abs K C Z E { nx := fun _ H' => Q .non H', rt := Q } (start ["self"] vs) H := by
  obtain ⟨p, t, b, rfl, ⟨dx, hp⟩, l1, bt, bb, k⟩ := h
  show t_abs K C Z E _ [some (.ref p)] H
  unfold t_abs
  simp only [x_seq, x_if, x_test, x_B, x_op, x_un, x_varS, x_var0, x_c, x_I0, x_I, x_U, x_bl, x_ret, x_next, x_asg, x_name, x_set0, x_setS, x_drop, x_cb, x_cons, x_nil, x_int1, x_abs1, x_max2, x_gcd, x_gsub, x_sl, x_part, x_nopart, x_int, x_call, x_lst, x_tup, x_not, x_and, x_or, x_andV, x_orV, x_notV, x_ifE, x_eqI, x_neI, x_eqB, x_neB, x_tbm, x_never, x_make, x_meth, x_isII, x_isIC, x_bool1, decide_eq_true_eq, Bool.false_eq_true, if_false, if_true, List.append_nil, List.nil_append, List.cons_append, x_top hp, x_bot hp]
  exact fun q d n1 n2 n3 => make_nz (bt.abs.mono (by decide)) (bb.mono (by decide)) l1.nz k n1 n2 n3
theorem pure_radd (vs : List V) (H : Hp) (Q : VK) (E : XK) (h : spRef C raddN vs H Q E) : t_radd K C Z E { nx := fun _ H' => Q .non H', rt := Q } (start ["self", "other"] vs) H := by
  obtain ⟨p, t, b, u, rfl, hr, l1, bt, bb, bu, k⟩ := h
  show t_radd K C Z E _ [some (.ref p), some (.int u)] H
  unfold t_radd
  obtain ⟨dx, hp⟩ := id hr
  simp only [x_seq, x_if, x_test, x_B, x_op, x_un, x_varS, x_var0, x_c, x_I0, x_I, x_U, x_bl, x_ret, x_next, x_asg, x_name, x_set0, x_setS, x_drop, x_cb, x_cons, x_nil, x_int1, x_abs1, x_max2, x_gcd, x_gsub, x_sl, x_part, x_nopart, x_int, x_call, x_lst, x_tup, x_not, x_and, x_or, x_andV, x_orV, x_notV, x_ifE, x_eqI, x_neI, x_eqB, x_neB, x_tbm, x_never, x_make, x_meth, x_isII, x_isIC, x_bool1, decide_eq_true_eq, Bool.false_eq_true, if_false, if_true, List.append_nil, List.nil_append, List.cons_append, x_ownI hp]
  exact ⟨p, _, t, b, u, 1, rfl, hr, .int u, l1, .int, bt, bb, bu, .one (by decide), k⟩
theorem pure_rmul (vs : List V) (H : Hp) (Q : VK) (E : XK) (h : spRef C rmulN vs H Q E) : t_rmul K C Z E { nx := fun _ H' => Q .non H', rt := Q } (start ["self", "other"] vs) H := by
  obtain ⟨p, t, b, u, rfl, hr, l1, bt, bb, bu, k⟩ := h
  show t_rmul K C Z E _ [some (.ref p), some (.int u)] H
  unfold t_rmul
  obtain ⟨dx, hp⟩ := id hr
  simp only [x_seq, x_if, x_test, x_B, x_op, x_un, x_varS, x_var0, x_c, x_I0, x_I, x_U, x_bl, x_ret, x_next, x_asg, x_name, x_set0, x_setS, x_drop, x_cb, x_cons, x_nil, x_int1, x_abs1, x_max2, x_gcd, x_gsub, x_sl, x_part, x_nopart, x_int, x_call, x_lst, x_tup, x_not, x_and, x_or, x_andV, x_orV, x_notV, x_ifE, x_eqI, x_neI, x_eqB, x_neB, x_tbm, x_never, x_make, x_meth, x_isII, x_isIC, x_bool1, decide_eq_true_eq, Bool.false_eq_true, if_false, if_true, List.append_nil, List.nil_append, List.cons_append, x_ownI hp]
  exact ⟨p, _, t, b, u, 1, rfl, hr, .int u, l1, .int, bt, bb, bu, .one (by decide), k⟩
theorem pure_rsub (vs : List V) (H : Hp) (Q : VK) (E : XK) (h : spRef C rsubN vs H Q E) : t_rsub K C Z E { nx := fun _ H' => Q .non H', rt := Q } (start ["self", "other"] vs) H := by
  obtain ⟨p, t, b, u, rfl, hr, l1, bt, bb, bu, k⟩ := h
  show t_rsub K C Z E _ [some (.ref p), some (.int u)] H
  unfold t_rsub
  obtain ⟨dx, hp⟩ := id hr
  simp only [x_seq, x_if, x_test, x_B, x_op, x_un, x_varS, x_var0, x_c, x_I0, x_I, x_U, x_bl, x_ret, x_next, x_asg, x_name, x_set0, x_setS, x_drop, x_cb, x_cons, x_nil, x_int1, x_abs1, x_max2, x_gcd, x_gsub, x_sl, x_part, x_nopart, x_int, x_call, x_lst, x_tup, x_not, x_and, x_or, x_andV, x_orV, x_notV, x_ifE, x_eqI, x_neI, x_eqB, x_neB, x_tbm, x_never, x_make, x_meth, x_isII, x_isIC, x_bool1, decide_eq_true_eq, Bool.false_eq_true, if_false, if_true, List.append_nil, List.nil_append, List.cons_append, x_ownU hp]
  refine ⟨p, t, b, rfl, hr, l1, bt, bb, fun r H1 n d hr1 hn s1 => ?_⟩
  obtain ⟨dy, hq⟩ := id hr1
  simp only [x_seq, x_if, x_test, x_B, x_op, x_un, x_varS, x_var0, x_c, x_I0, x_I, x_U, x_bl, x_ret, x_next, x_asg, x_name, x_set0, x_setS, x_drop, x_cb, x_cons, x_nil, x_int1, x_abs1, x_max2, x_gcd, x_gsub, x_sl, x_part, x_nopart, x_int, x_call, x_lst, x_tup, x_not, x_and, x_or, x_andV, x_orV, x_notV, x_ifE, x_eqI, x_neI, x_eqB, x_neB, x_tbm, x_never, x_make, x_meth, x_isII, x_isIC, x_bool1, decide_eq_true_eq, Bool.false_eq_true, if_false, if_true, List.append_nil, List.nil_append, List.cons_append, x_ownI hq]
  have le := hn.le l1.nz
  refine ⟨r, _, n, d, u, 1, rfl, hr1, .int u, hn.low, .int, bt.neg.of le.1, bb.of le.2, bu, .one (by decide), fun r2 H2 n2 d2 hr2 hn2 s2 => ?_⟩
  refine k r2 H2 n2 d2 hr2 (hn2.cross (Int.mul_ne_zero hn.low.nz (by decide)) ?_) (s1.trans s2)
  have e := hn.eq
  unfold addN rsubN
  rw [Int.mul_one, Int.mul_one, Int.mul_one, Int.mul_one, Int.add_mul, Int.sub_mul, e, Int.mul_assoc, Int.mul_comm d b, ← Int.mul_assoc, Int.neg_mul]
  omega
theorem pure_eq (vs : List V) (H : Hp) (Q : VK) (E : XK) (h : spEq C vs H Q E) : t_eq K C Z E { nx := fun _ H' => Q .non H', rt := Q } (start ["self", "other"] vs) H := by
  obtain ⟨p, v, t, b, u, c, rfl, ⟨dx, hp⟩, hv, l1, l2, k⟩ := h
  have iff : t * c = u * b ↔ t = u ∧ b = c := ⟨l1.same l2, fun ⟨e1, e2⟩ => by rw [e1, e2]⟩
  have ed : decide (t * c = u * b) = decide (t = u ∧ b = c) := decide_eq_decide.mpr iff
  rw [ed] at k
  show t_eq K C Z E _ [some (.ref p), some v] H
  unfold t_eq
  cases hv with
  | int u =>
    simp only [x_seq, x_if, x_test, x_B, x_op, x_un, x_varS, x_var0, x_c, x_I0, x_I, x_U, x_bl, x_ret, x_next, x_asg, x_name, x_set0, x_setS, x_drop, x_cb, x_cons, x_nil, x_int1, x_abs1, x_max2, x_gcd, x_gsub, x_sl, x_part, x_nopart, x_int, x_call, x_lst, x_tup, x_not, x_and, x_or, x_andV, x_orV, x_notV, x_ifE, x_eqI, x_neI, x_eqB, x_neB, x_tbm, x_never, x_make, x_meth, x_isII, x_isIC, x_bool1, decide_eq_true_eq, Bool.false_eq_true, if_false, if_true, List.append_nil, List.nil_append, List.cons_append, x_top hp, x_bot hp, if_true]
    by_cases hb : b = 1
    · rw [if_pos hb]
      simpa [hb] using k
    · rw [if_neg hb]
      simpa [hb] using k
  | rat hq =>
    obtain ⟨dy, hq⟩ := hq
    simp only [x_seq, x_if, x_test, x_B, x_op, x_un, x_varS, x_var0, x_c, x_I0, x_I, x_U, x_bl, x_ret, x_next, x_asg, x_name, x_set0, x_setS, x_drop, x_cb, x_cons, x_nil, x_int1, x_abs1, x_max2, x_gcd, x_gsub, x_sl, x_part, x_nopart, x_int, x_call, x_lst, x_tup, x_not, x_and, x_or, x_andV, x_orV, x_notV, x_ifE, x_eqI, x_neI, x_eqB, x_neB, x_tbm, x_never, x_make, x_meth, x_isII, x_isIC, x_bool1, decide_eq_true_eq, Bool.false_eq_true, if_false, if_true, List.append_nil, List.nil_append, List.cons_append, x_top hp, x_bot hp, x_top hq, x_bot hq, x_isRI hq, x_isRC hq, Bool.false_eq_true, if_false]
    by_cases ht : t = u
    · subst ht
      simpa using k
    · simpa [ht] using k
theorem pure_bool (vs : List V) (H : Hp) (Q : VK) (E : XK) (h : spBool C vs H Q E) : t_bool K C Z E { nx := fun _ H' => Q .non H', rt := Q } (start ["self"] vs) H := by
  obtain ⟨p, t, b, rfl, ⟨dx, hp⟩, k⟩ := h
  show t_bool K C Z E _ [some (.ref p)] H
  unfold t_bool
  simp only [x_seq, x_if, x_test, x_B, x_op, x_un, x_varS, x_var0, x_c, x_I0, x_I, x_U, x_bl, x_ret, x_next, x_asg, x_name, x_set0, x_setS, x_drop, x_cb, x_cons, x_nil, x_int1, x_abs1, x_max2, x_gcd, x_gsub, x_sl, x_part, x_nopart, x_int, x_call, x_lst, x_tup, x_not, x_and, x_or, x_andV, x_orV, x_notV, x_ifE, x_eqI, x_neI, x_eqB, x_neB, x_tbm, x_never, x_make, x_meth, x_isII, x_isIC, x_bool1, decide_eq_true_eq, Bool.false_eq_true, if_false, if_true, List.append_nil, List.nil_append, List.cons_append, x_top hp]
  exact k
theorem pure_sign (vs : List V) (H : Hp) (Q : VK) (E : XK) (h : spSign C vs H Q E) : t_sign K C Z E { nx := fun _ H' => Q .non H', rt := Q } (start ["self"] vs) H := by
  obtain ⟨p, t, b, rfl, ⟨dx, hp⟩, k⟩ := h
  show t_sign K C Z E _ [some (.ref p)] H
  unfold t_sign
  simp only [x_seq, x_if, x_test, x_B, x_op, x_un, x_varS, x_var0, x_c, x_I0, x_I, x_U, x_bl, x_ret, x_next, x_asg, x_name, x_set0, x_setS, x_drop, x_cb, x_cons, x_nil, x_int1, x_abs1, x_max2, x_gcd, x_gsub, x_sl, x_part, x_nopart, x_int, x_call, x_lst, x_tup, x_not, x_and, x_or, x_andV, x_orV, x_notV, x_ifE, x_eqI, x_neI, x_eqB, x_neB, x_tbm, x_never, x_make, x_meth, x_isII, x_isIC, x_bool1, decide_eq_true_eq, Bool.false_eq_true, if_false, if_true, List.append_nil, List.nil_append, List.cons_append, x_top hp]
  refine ite2 (fun hlt => ?_) fun hge => ite2 (fun hgt => ?_) fun hz => ?_
  · rwa [Int.sign_eq_neg_one_of_neg hlt] at k
  · rwa [Int.sign_eq_one_of_pos hgt] at k
  · have : t = 0 := by omega
    subst this
    exact k
theorem look_sign {t b : Int} : List.lookup ("sign" : Str) (RF t b) = none := by
  have h1 : (("sign" : Str) == "top") = false := by decide +kernel
  have h2 : (("sign" : Str) == "bottom") = false := by decide +kernel
  simp only [RF, List.lookup, h1, h2]
theorem look_over {t b : Int} : List.lookup ("over" : Str) (RF t b) = none := by
  have h1 : (("over" : Str) == "top") = false := by decide +kernel
  have h2 : (("over" : Str) == "bottom") = false := by decide +kernel
  simp only [RF, List.lookup, h1, h2]
theorem Norm.sign {n d x y : Int} (h : Norm n d x y) (hy : 0 < y) : n.sign = x.sign := by
  have e := congrArg Int.sign h.eq
  rw [Int.sign_mul, Int.sign_mul, Int.sign_eq_one_of_pos hy, Int.sign_eq_one_of_pos h.pos, Int.mul_one, Int.mul_one] at e
  exact e
theorem pure_compare (vs : List V) (H : Hp) (Q : VK) (E : XK) (h : spCompare C vs H Q E) : t_compare K C Z E { nx := fun _ H' => Q .non H', rt := Q } (start ["first", "second"] vs) H := by
  obtain ⟨p, q, t, b, u, c, rfl, hp, hq, l1, l2, bt, bb, bu, bc, k⟩ := h
  show t_compare K C Z E _ [some (.ref p), some (.ref q)] H
  unfold t_compare
  obtain ⟨dx, hp'⟩ := id hp
  obtain ⟨dy, hq'⟩ := id hq
  simp only [x_seq, x_if, x_test, x_B, x_op, x_un, x_varS, x_var0, x_c, x_I0, x_I, x_U, x_bl, x_ret, x_next, x_asg, x_name, x_set0, x_setS, x_drop, x_cb, x_cons, x_nil, x_int1, x_abs1, x_max2, x_gcd, x_gsub, x_sl, x_part, x_nopart, x_int, x_call, x_lst, x_tup, x_not, x_and, x_or, x_andV, x_orV, x_notV, x_ifE, x_eqI, x_neI, x_eqB, x_neB, x_tbm, x_never, x_make, x_meth, x_isII, x_isIC, x_bool1, decide_eq_true_eq, Bool.false_eq_true, if_false, if_true, List.append_nil, List.nil_append, List.cons_append, x_own2 hp' hq']
  refine ⟨p, _, t, b, u, c, rfl, hp, .rat hq, l1, l2, bt, bb, bu, bc, fun r H1 n d hr hn s1 => ?_⟩
  obtain ⟨dz, hr'⟩ := id hr
  refine ⟨r, dz, _, rfl, hr', look_sign, r, n, d, rfl, hr, ?_⟩
  rw [hn.sign (Int.mul_pos l1.pos l2.pos)]
  exact k H1 s1
end
end SpX

set_option Elab.async false
set_option linter.all false
set_option maxRecDepth 100000
set_option maxHeartbeats 2000000
/-! Loops, draws, tuples: what the laws have in common. -/
namespace SpX
open PySem PySem.Spec L2
/-! ### loops -/
theorem for_rngC {j : Int} {g : TG} {tb : TS} {D : Ends} {σ : L2.St} {H : Hp} (hj : 0 ≤ j ∧ j < 1000) (Pv : Nat → L2.St → Hp → Prop) (h0 : Pv 0 σ H)
    (hs : ∀ (i : Nat) σ H, (i : Int) < j → Pv i σ H → g (.int i) σ H fun σ2 H2 => tb { D with nx := Pv (i + 1), ct := Pv (i + 1), bk := D.nx } σ2 H2) (hd : ∀ σ H, Pv j.toNat σ H → D.nx σ H) : tFor (iRng1 (tCons (tC (.int j)) tNil)) g tb D σ H := by
  refine ⟨j, rfl, by omega, by omega, for_range (lo := 0) (n := j.toNat) Pv h0 (fun i σ H hi h => ?_) hd⟩
  have := hs i σ H (by omega) h
  rwa [Int.zero_add]
theorem for_lstV {K : PySem.W.Frag} {te : TE} {a : Addr} {xs : List V} {g : TG} {tb : TS} {D : Ends} {σ : L2.St} {H : Hp} (he : ∀ Q : VK, te σ H Q = Q (.ref a) H) (Pv : Nat → L2.St → Hp → Prop) (h0 : Pv 0 σ H) (hl : ∀ i σ H, i ≤ xs.length → Pv i σ H → H a = some (.lst xs))
    (hs : ∀ i x σ H, xs[i]? = some x → Pv i σ H → g x σ H fun σ2 H2 => tb { D with nx := Pv (i + 1), ct := Pv (i + 1), bk := D.nx } σ2 H2) (hd : ∀ σ H, Pv xs.length σ H → D.nx σ H) : tFor (iList K te) g tb D σ H := by
  show te σ H _
  rw [he]
  exact ⟨a, rfl, ⟨xs, SqL.at (hl 0 σ H (Nat.zero_le _) h0)⟩, for_list Pv h0 (fun i σ H h p => SqL.at (hl i σ H h p)) hs hd⟩
/-! ### draws -/
theorem Bd.nat {n : Nat} {a : Int} {b : Nat} (h0 : 0 ≤ a) (h : a < b) (l : b ≤ 2 ^ n) : Bd n a := by
  unfold Bd
  omega
theorem p60 : (10 : Int) ^ (60 : Int).toNat = ((10 ^ 60 : Nat) : Int) := by decide +kernel
theorem p58 : (10 : Int) ^ (58 : Int).toNat = ((10 ^ 58 : Nat) : Int) := by decide +kernel
theorem p30 : (10 : Int) ^ (30 : Int).toNat = ((10 ^ 30 : Nat) : Int) := by decide +kernel
theorem p9 : (10 : Int) ^ (9 : Int).toNat = 1000000000 := by decide +kernel
theorem le60 : 10 ^ 60 ≤ 2 ^ 200 := by decide +kernel
theorem le58 : 10 ^ 58 ≤ 2 ^ 200 := by decide +kernel
theorem le30 : 10 ^ 30 ≤ 2 ^ 100 := by decide +kernel
theorem big_of {n : Nat} {a : Int} (h : Bd n a) (l : n ≤ 8000) : a.natAbs < 2 ^ 8000 := h.mono l
theorem PoolAt.toB {H : Hp} {P : Addr} (h : PoolAt H P) : PoolB (fun _ => False) H P := by
  obtain ⟨g, s, G, S, c, h⟩ := h
  exact ⟨g, s, G, S, c, h, fun z => z, fun z => z⟩
theorem PoolB.at {B : Addr → Prop} {H : Hp} {P : Addr} (h : PoolB B H P) : PoolAt H P := by
  obtain ⟨g, s, G, S, c, h, _⟩ := h
  exact ⟨g, s, G, S, c, h⟩
/-- what a draw asks, when the bound is small -/
theorem take_of {P : Addr} {most : Int} {H : Hp} {Q : VK} {E : XK} {n : Nat} (hp : PoolAt H P) (h2 : 2 ≤ most) (hb : Bd n most) (l : n ≤ 8000) (k : ∀ (r : Int) (H' : Hp), PoolAt H' P → Keep P H H' → 0 ≤ r → r < most → Q (.int r) H') : spTakeB [.ref P, .int most] H Q E :=
  ⟨P, most, fun _ => False, rfl, hp.toB, fun _ z => z.elim, big_of hb l, fun r H' a b c d _ => k r H' a.at b c (d h2)⟩
/-- .. beside lists that grow -/
theorem takeB_of {P : Addr} {B : Addr → Prop} {most : Int} {H : Hp} {Q : VK} {E : XK} {n : Nat} (hp : PoolB B H P) (hB : ∀ b, B b → ∃ o, H b = some o) (h2 : 2 ≤ most) (hb : Bd n most) (l : n ≤ 8000) (k : ∀ (r : Int) (H' : Hp), PoolB B H' P → Keep P H H' → 0 ≤ r → r < most → Q (.int r) H') : spTakeB [.ref P, .int most] H Q E :=
  ⟨P, most, B, rfl, hp, hB, big_of hb l, fun r H' a b c d _ => k r H' a b c (d h2)⟩
theorem Bd.lit {n : Nat} (a : Int) (h0 : 0 ≤ a) (h : a < 2000000000) (l : 31 ≤ n) : Bd n a := by
  refine Bd.mono (m := 31) ?_ l
  unfold Bd
  omega
theorem Bd.big {a : Int} {n b : Nat} (e : a = (b : Int)) (l : b < 2 ^ n) : Bd n a := by
  unfold Bd
  rw [e, Int.natAbs_natCast]
  exact l
theorem b60 : Bd 200 ((10 ^ 60 : Nat) : Int) := .big rfl (by decide +kernel)
theorem b30 : Bd 100 ((10 ^ 30 : Nat) : Int) := .big rfl (by decide +kernel)
theorem Bd.lt {n : Nat} {a b : Int} (h : Bd n b) (h0 : 0 ≤ a) (h1 : a < b) : Bd n a := Bd.of h (by omega)
theorem pow_ok {i j : Int} (h0 : 0 ≤ j) (h1 : j ≤ 1000) (h2 : i.natAbs < 2 ^ 64) : CPow i j := ⟨h0, by omega, h2⟩
/-- two ints in a tuple -/
def TupAt (H : Hp) (o : Addr) (x y : Int) : Prop := H o = some (.tup [.int x, .int y])
theorem TupAt.keep {H H' : Hp} {P o : Addr} {x y : Int} (h : TupAt H o x y) (hp : PoolAt H P) (k : Keep P H H') : TupAt H' o x y := by
  obtain ⟨g, s, G, S, c, hp⟩ := hp
  exact k _ _ (lst_tup hp.p h) h
theorem TupAt.same {H H' : Hp} {o : Addr} {x y : Int} (h : TupAt H o x y) (k : Same H H') : TupAt H' o x y := k _ _ h
theorem PoolAt.same {H H' : Hp} {P : Addr} (h : PoolAt H P) (k : Same H H') : PoolAt H' P := by
  obtain ⟨g, s, G, S, c, h1, h2, h3, h4, h5, h6⟩ := h
  exact ⟨g, s, G, S, c, k _ _ h1, k _ _ h2, k _ _ h3, h4, h5, h6⟩
theorem max1 {r : Int} : (if r > 1 then r else 1) = if 1 < r then r else 1 := rfl
theorem max1_pos {r : Int} : 0 < (if r > 1 then r else 1) := by split <;> omega
theorem max1_bd {n : Nat} {r : Int} (h : Bd n r) (hn : 0 < n) : Bd n (if r > 1 then r else 1) := by
  split
  · exact h
  · exact .one hn
theorem Bd.emod {n : Nat} {a b : Int} (h : Bd n b) (h0 : 0 < b) : Bd n (a % b) := h.lt (Int.emod_nonneg _ (by omega)) (Int.emod_lt_of_pos _ h0)
theorem at0 {v w : V} : atI [v, w] 0 = some v := rfl
theorem at1 {v w : V} : atI [v, w] 1 = some w := rfl
theorem abs_if2 (a : Int) : (if a < 0 then -a else a) = (a.natAbs : Int) := abs_if a
theorem fdiv_le {x y : Int} (hy : y ≠ 0) : (x.fdiv y).natAbs ≤ x.natAbs := Int.natAbs_fdiv_le_natAbs x y
theorem int_of {i : Int} {H : Hp} {Q : VK} {E : XK} (k : Q (.bl true) H) : spInteger [.int i] H Q E := ⟨i, rfl, k⟩
/-- the law: a list of at most 63 ints is handed in, True comes out -/
def spLaw (K : PySem.W.Frag) : Sp := fun vs H Q _ => ∃ (a : Addr) (ns : List Int), vs = [.ref a] ∧ SqL K H a (ns.map V.int) ∧ ns.length ≤ 63 ∧ ∀ H', Q (.bl true) H'
end SpX

set_option Elab.async false
set_option linter.all false
set_option maxRecDepth 100000
set_option maxHeartbeats 2000000
/-! A def whose first row is super().__init__('..') of an own exception over ValueError: its frame, that row, its promise. -/
namespace SpX
open PySem PySem.Spec PyProof.Rows L2

theorem rl_out {x : Str} : ∀ {l : List (Str × Value)}, (∀ v, (x, v) ∉ l) → l.lookup x = none := fun {l} h => by
  induction l with
  | nil => rfl
  | cons p r ih =>
    obtain ⟨n, v⟩ := p
    have hn : x ≠ n := fun e => h v (by rw [e]; exact List.mem_cons_self)
    rw [List.lookup_cons, show (x == n) = false from beq_eq_false_iff_ne.mpr hn]
    exact ih fun w hw => h w (List.mem_cons_of_mem _ hw)
theorem rl_get {x : Str} {v : Value} : ∀ {P : List Str} {vs : List Value} {i : Nat}, P.Nodup → P[i]? = some x → vs[i]? = some v → (P.zip vs).reverse.lookup x = some v
  | [], _, _, _, h, _ => by simp at h
  | _ :: _, [], _, _, _, h => by simp at h
  | p :: P, u :: vs, 0, nd, h1, h2 => by
    simp at h1 h2
    subst h1
    subst h2
    rw [List.zip_cons_cons, List.reverse_cons, List.lookup_append, rl_out fun v hv => (List.nodup_cons.mp nd).1 (List.of_mem_zip (List.mem_reverse.mp hv)).1]
    simp [List.lookup]
  | p :: P, u :: vs, i + 1, nd, h1, h2 => by
    rw [List.zip_cons_cons, List.reverse_cons, List.lookup_append, rl_get (i := i) (List.nodup_cons.mp nd).2 (by simpa using h1) (by simpa using h2)]
    rfl

structure SupScope (N P : List Str) (sc : Scope) : Prop where
  kind : sc.kind = .function
  co : sc.isCoroutine = false
  gen : sc.isGenerator = false
  nd : N.Nodup
  pre : N.take P.length = P
  par : ∀ x ∈ P, sc.names.lookup x = some .local
  nocell : ∀ y ∈ sc.names, y.2 ≠ .cell
  free : ∀ y ∈ sc.names, y.2 = .free → y.1 = "__class__"
  sup : sc.names.lookup ("super" : Str) = some .globalImplicit
  cls : sc.names.lookup ("__class__" : Str) = some .free

def cxSup (CX : CXT) (P : Program) (w : World) (K : PySem.W.Frag) (mg : Str → Option Value) (base : Heap) (N : List Str) (qual : Str) (scope : Scope) (f : Addr) (cd : Value) (cc : Addr) (A : Around) (outer : List Env) (s : Shared) (H : Hp) (E : XK) : Cx where
  prog := P
  w := w
  K := K
  mg := mg
  base := base
  A := A.deeper (PySem.W.ksEnv qual scope s.heap.objs.size f cd cc)
  N := N
  s_0 := s
  H_0 := H
  env := PySem.W.ksEnv qual scope s.heap.objs.size f cd cc
  outer := outer
  stack := PySem.W.ksEnv qual scope s.heap.objs.size f cd cc :: outer
  ex := []
  calm := true
  fn := fun x => x != "__class__"
  pn := []
  xe := fun e s' => wpAny (model P w) (A.deeper (PySem.W.ksEnv qual scope s.heap.objs.size f cd cc)) (leaving (PySem.W.ksEnv qual scope s.heap.objs.size f cd cc) e) (fun _ s'' => CX outer H s E e s'') (fun e' s'' => CX outer H s E e' s'') s'

section
variable {CX : CXT} {P : Program} {w : World} {K : PySem.W.Frag} {mg : Str → Option Value} {base : Heap} {N ps : List Str} {qual : Str} {scope : Scope} {f cc : Addr} {cd : Value} {A : Around} {outer : List Env} {s : Shared} {H : Hp} {E : XK} {us : List Value} {vs : List V}
theorem inv_sup {h1 : Heap} {tk : Nat} {cl : Value} {cld : Option Addr} {cv : Option Value} {csl : Array (Option Value)} (S : SupScope N ps scope) (hd : A.handled = none) (e0 : Env0 P w K mg base A outer s H) (hl : vs.length = ps.length) (r : Vals vs us)
    (hcell : K.lookup cc = some ⟨cl, cld, .cell cv, csl⟩) (ns : h1.Ns s.heap.objs.size (fun x => (ps.zip us).reverse.lookup x)) (hk : ∀ b o, s.heap.get? b = some o → h1.get? b = some o) :
    Inv (cxSup CX P w K mg base N qual scope f cd cc A outer s H E) [] (L2.start N vs) H { s with heap := h1, toks := tk } := by
  have hpl : ps.length ≤ N.length := by have := congrArg List.length S.pre; rw [List.length_take] at this; omega
  have noA : ∀ b : Addr, b ∉ (cxSup CX P w K mg base N qual scope f cd cc A outer s H E).ex := fun b z => absurd (show b ∈ ([] : List Addr) from z) (by simp)
  have one : ∀ y c, List.lookup y [(("__class__" : Str), cc)] = some c → y = "__class__" ∧ c = cc := fun y c h => by
    rw [List.lookup_cons] at h
    cases e : y == ("__class__" : Str) with
    | true =>
      rw [e] at h
      exact ⟨beq_iff_eq.mp e, (Option.some.inj h).symm⟩
    | false =>
      rw [e] at h
      cases h
  have cb := e0.mod.kin _ _ hcell
  refine ⟨⟨e0.mod, S.kind, rfl, rfl, Nat.le_refl _, fun y z c h1 h2 => ?_, fun y hy => ?_, fun y c hf h => ?_, fun _ => hd, Around.frames_deeper e0.frames, .inr ⟨rfl, rfl⟩, fun b z => absurd z (noA b), e0.bs, e0.bsz, fun b _ _ => noA b, fun b z => absurd z (noA b), e0.funs, e0.frf⟩,
    rfl, e0.bare, Un.kept hk, ⟨_, ns, fun i y v h1 h2 h3 => ?_⟩, fun y c h => ?_, e0.hok.fresh (Nat.le_refl _), fun y c h => ?_, fun p hp => absurd (show p ∈ ([] : List (Addr × Obj)) from hp) (by simp), e0.hok.kept hk, ?_⟩
  · rw [(one y c h1).1, (one z c h2).1]
  · have hy : scope.names.lookup y = some .cell ∨ scope.names.lookup y = some .free := hy
    rcases hy with hy | hy
    · exact absurd rfl (S.nocell _ (PySem.mem_of_lookup hy))
    · have := S.free _ (PySem.mem_of_lookup hy) rfl
      exact ⟨cc, by rw [show y = "__class__" from this]; rfl⟩
  · have hf : (y != ("__class__" : Str)) = true := hf
    rw [(one y c h).1] at hf
    exact absurd hf (by simp)
  · have hi : i < vs.length := by
      unfold L2.start at h2
      by_cases hi : i < vs.length
      · exact hi
      · rw [List.getElem?_append_right (by simpa using hi)] at h2
        rw [List.getElem?_replicate] at h2
        split at h2 <;> cases h2
    have ha : vs[i]? = some v := by
      unfold L2.start at h2
      rw [List.getElem?_append_left (by simpa using hi), List.getElem?_map] at h2
      cases e : vs[i]? with
      | none => rw [e] at h2; cases h2
      | some a => rw [e] at h2; cases h2; rfl
    obtain ⟨u, hu, rv⟩ := r.get ha
    have hp : ps[i]? = some y := by
      rw [← S.pre, List.getElem?_take_of_lt (by omega)]; exact h1
    have ndP : ps.Nodup := by rw [← S.pre]; exact S.nd.sublist (List.take_sublist _ _)
    exact ⟨u, rv, .inl ⟨S.par y (List.mem_of_getElem? hp), rl_get ndP hp hu⟩⟩
  · rw [(one y c h).2]
    exact ⟨cv, _, hk _ _ (e0.bs _ _ cb).1, rfl⟩
  · rw [(one y c h).2]
    exact (e0.bs _ _ cb).2
  · unfold L2.start
    show _ = N.length
    rw [List.length_append, List.length_map, List.length_replicate]
    omega
end

/-- super().__init__ bound to an exception, called -/
theorem call_mw {prog : Program} {w : World} {A : Around} {E : Value → Shared → Prop} {h : Heap} {g : Array GenState} {d : Drawn} {t : Nat} {os : OsState} {nm q : Str} {C N : Addr} {bs bm : List Value} {hdct : Bool} {sn : List Str} {sub : List Value} {ab : Bool} {col : Option Bool}
    {dd : Option Addr} {k0 k1 k2 k3 k5 : Option Value} {u e t0 : Addr} {rest : List Value} {Q : Value → Shared → Prop}
    (hC : h.get? C = some (excClassObj nm q C N bs bm hdct sn sub ab col dd k0 k1 k2 k3 k5 "ValueError.__new__")) (he : h.get? e = some (PySem.W.excObj C t0 none .none)) (hu : h.get? u = some (PySem.W.kxs_mw "ValueError.__init__" e)) (hrest : rest.length ≤ sizeLine)
    (hq : ∀ h' t1, (∀ b o, b ≠ e → h.get? b = some o → h'.get? b = some o) → h'.get? e = some (PySem.W.excObj C t1 none .none) → Q .none ⟨h', g, d, t, os⟩) :
    wpAny (model prog w) A (call (.ref u) rest) Q E ⟨h, g, d, t, os⟩ := by
  refine wpAny_call (codeAny_of_tree ?_)
  show wpAny _ A.in1 (callAny (.ref u) ⟨rest, []⟩) _ _ _
  simp only [callAny]
  refine wpAny_bind (wpAny_load hu ?_)
  simp only [PySem.W.kxs_mw, show (Value.type "method-wrapper" == Value.type "method" || Value.type "method-wrapper" == Value.type "builtin_function_or_method" || Value.type "method-wrapper" == Value.type "method-wrapper") = true by decide, if_true]
  refine PySem.W.KFB.if_so (by decide) ?_
  refine wpAny_bind (PySem.W.check_bound_init F.excBase_ValueError.toExcCallFacts hC he rfl ?_)
  refine wpAny_bind (wpAny_pure (wpAny_pure ?_))
  refine ⟨plainId_quiet F.excBase_ValueError.init.plain _, codeAny_builtin F.excBase_ValueError.initEntry ?_⟩
  exact PySem.W.exc_init_tree (cls := .ref C) (t0 := t0) (dv := none) (c2 := .none) (c3 := .none) (b4 := .bool false) he hrest fun h' k e' _ => hq h' _ k e'

/-- what the written part says of a class D whose __init__ asks super(), and of the class C of the object -/
structure SupC (prog : Program) (K : PySem.W.Frag) (mg : Str → Option Value) (C D : Addr) : Prop where
  cls : ∃ nm q N bs bm sn sub ab col dd k0 k1 k2 k3 k5, K.lookup C = some (excClassObj nm q C N bs bm true sn sub ab col dd k0 k1 k2 k3 k5 "ValueError.__new__") ∧ PySem.HandSPX.refsVE bm = true
  cD : ∃ cdD, PySem.W.clsIn K D = some cdD
  sub : PySem.W.mroIn K C (.ref D) = some true
  next : PySem.W.ks_superIn K C D "__init__" = some (some (.builtin "ValueError.__init__"))
  ve : PySem.W.subIn K (.ref C) (.type "ValueError") = some true
  any : PySem.W.nsIn K cStatics "thirdparty.any" = some none
  nosup : mg "super" = none
  top : (prog.main.scope.names.lookup ("super" : Str)).isSome = false
/-- of the code object and the cell of that __init__ -/
structure SupF (prog : Program) (K : PySem.W.Frag) (cda cc D : Addr) : Prop where
  code : ∃ cl d vs sl file tf, K.lookup cda = some ⟨cl, d, .fields vs, sl⟩ ∧ vs[2]? = some (.str file tf) ∧ ((prog.main.file : Str) == file) = true
  cell : ∃ cl d sl, K.lookup cc = some ⟨cl, d, .cell (some (.ref D)), sl⟩

theorem sup_row {X : Cx} {σ : L2.St} {H : Hp} {s : Shared} {body : List Stmt} {qual : Str} {scope : Scope} {L f cc cda C D a : Addr} {fd : FuncData} {ar : Arg} {oc : Value} {od : Option Addr} {osl : Array (Option Value)} {p0 p1 p2 p3 p4 p5 : Pos} {x : Str} {j : Nat} {Q : Flow → Shared → Prop} {E : Value → Shared → Prop}
    (he : X.env = PySem.W.ksEnv qual scope L f (.ref cda) cc) (hks : scope.names.lookup ("super" : Str) = some .globalImplicit) (hkc : scope.names.lookup ("__class__" : Str) = some .free) (hka : scope.names.lookup ar.arg = some .local)
    (lk : X.K.lookup f = some ⟨oc, od, .func fd, osl⟩) (hp : (fd.params.posonlyargs ++ fd.params.args).head? = some ar) (F : SupF X.prog X.K cda cc D) (T : SupC X.prog X.K X.mg C D) (I : Inv X [] σ H s) (hN : X.N[0]? = some ar.arg) (hσ : σ[0]? = some (some (.ref a))) (ea : H a = some (exo a C none))
    (h : ∀ s', Inv X [] σ H s' → Q .next s')
    (hs : swapsWith (.Call (.Attribute (.Call (.Name "super" p0) [] [] p1) "__init__" p2) [.Constant (.str x) j p3] [] p4) none p5.line X.env = pure false := by rfl)
    {pl : Sem Bool} (hev : eval (.Call (.Attribute (.Call (.Name "super" p0) [] [] p1) "__init__" p2) [.Constant (.str x) j p3] [] p4) X.env = (do
      let ov ← attributeBase (.Call (.Name "super" p0) [] [] p1) "__init__" X.env (eval (.Call (.Name "super" p0) [] [] p1) X.env)
      standAt p2.atName
      let (f, first) ← holding [ov] (getMethod ov "__init__" pl)
      callWith p4 f first (backTo p4 (starEach [.Constant (.str x) j p3] X.env)) []) := by rfl)
    (hst : starEach [Expr.Constant (.str x) j p3] X.env = (false, eval (.Constant (.str x) j p3) X.env) :: starEach [] X.env := by rfl) :
    PySem.wpAt (model X.prog X.w) X.A (.func body X.env) (exec (.Expr (.Call (.Attribute (.Call (.Name "super" p0) [] [] p1) "__init__" p2) [.Constant (.str x) j p3] [] p4) p5) X.env) Q E s := by
  obtain ⟨cl, dcl, vsC, slC, file, tf, hcode, hvs, hfile⟩ := F.code
  obtain ⟨cl2, dcl2, sl2, hcell⟩ := F.cell
  obtain ⟨nm, qn, NC, bs, bm, sn, sub, ab, col, dd, k0, k1, k2, k3, k5, hC, hbm⟩ := T.cls
  obtain ⟨cdD, hD⟩ := T.cD
  obtain ⟨mb, hb1, hb2⟩ := I.mod.blt
  obtain ⟨m, hm, hl⟩ := I.loc
  obtain ⟨u0, ru0, look⟩ := hl 0 ar.arg (.ref a) hN hσ (.inl (by rw [he]; exact hka))
  obtain rfl : u0 = Value.ref a := ru0
  have hself : m ar.arg = some (.ref a) := by
    rcases look with ⟨_, e⟩ | ⟨k, c, hc, _⟩
    · exact e
    · rcases k with k | k
      · rw [he] at k
        exact absurd (hka.symm.trans k) (by simp)
      · rw [he] at k
        exact absurd (hka.symm.trans k) (by simp)
  obtain ⟨t1, hobj⟩ := exo_at I.hok ea
  have KI := I.kIn
  have kk : X.env.scope.kind = .function := I.ok.kind
  have hks' : X.env.kindOf "super" = some .globalImplicit := by rw [he]; exact hks
  have hkc' : X.env.kindOf "__class__" = some .free := by rw [he]; exact hkc
  have hka' : X.env.kindOf ar.arg = some .local := by rw [he]; exact hka
  have hcl : X.env.cells.lookup ("__class__" : Str) = some cc := by rw [he]; rfl
  obtain ⟨oD, hD1, hD2⟩ : ∃ oD, s.heap.get? D = some oD ∧ oD.data = .cls cdD := by
    unfold PySem.W.clsIn at hD
    split at hD
    · rename_i c d cd' sl ho
      cases hD
      exact ⟨_, KI _ _ ho, rfl⟩
    · cases hD
  refine PySem.ks_wpAt_Expr_any (PySem.ks_wpAt_MethodCall (PySem.ks_wpAt_super_base (env := X.env) hks' hkc' (by decide) (by rw [he]) (KI _ _ lk) rfl hp (by rw [he]) (KI _ _ hcode) rfl hvs hfile T.top ?_) hev) I.quiet hs
  refine PySem.W.ks_loadName_global kk hks' (Calls.loadGlobal_builtin (by rw [I.ok.glob]; exact I.mod.glob.keeps I.bk) T.nosup (by rw [I.ok.blt]; exact hb1.keeps I.bk) ((hb2 _ (by decide)).trans (by decide +kernel : bootBuiltins "super" = some (.type "super"))) ⟨rfl, ?_⟩)
  refine wpAny_loadName_free kk hkc' hcl ⟨_, KI _ _ hcell, rfl⟩ ?_
  refine wpAny_loadName_local kk hka' hm hself ?_
  refine PySem.ks_wpAny_isType_cls hD1 hD2 ⟨rfl, ?_⟩
  obtain ⟨hp0, g, d, tk, os⟩ := s
  refine PySem.ks_wpAny_call_super hD1 hD2 hobj rfl (fun c e => by cases e) (PySem.W.looks_mroIn KI T.sub) (fun h1 e1 k1 => ?_)
  have I1 := I.kept (h' := h1) (t' := tk) k1
  have hnx := T.next
  unfold PySem.W.ks_superIn at hnx
  cases hc : PySem.W.clsIn X.K C with
  | none =>
    rw [hc] at hnx
    cases hnx
  | some cd =>
    rw [hc] at hnx
    have K1 := I1.kIn
    have hin : PySem.W.InstAt h1 a (PySem.W.excObj C t1 none .none) C none := ⟨k1 _ _ hobj, rfl, rfl, trivial⟩
    refine PySem.W.kxs_getMethod PySem.W.kxs_ValueError e1 (PySem.W.looks_opaque K1 T.any) (l₀ := cd.mro) ?_ rfl K1 hnx (hin.type.andThen (PySem.W.looks_subIn K1 T.ve)) (PySem.W.ks_ne K1 hin hc) (by decide) ?_
    · exact fun A Q E s k q => wpAny_bind ((PySem.W.looks_clsIn K1 hc) A _ E s k (wpAny_pure q))
    have hso : h1.objs.size = h1.objs.size := rfl
    -- the bound __init__ stands behind
    have ku : ∀ b o, h1.get? b = some o → (h1.push (PySem.W.kxs_mw "ValueError.__init__" a)).get? b = some o := fun b o e => Heap.get?_push_of_some _ e
    have hu : (h1.push (PySem.W.kxs_mw "ValueError.__init__" a)).get? h1.objs.size = some (PySem.W.kxs_mw "ValueError.__init__" a) := Heap.get?_push_at rfl rfl
    have I2 := I1.kept (h' := h1.push (PySem.W.kxs_mw "ValueError.__init__" a)) (t' := tk + 1) ku
    have I3 : Inv X [(h1.objs.size, PySem.W.kxs_mw "ValueError.__init__" a)] σ H ⟨h1.push (PySem.W.kxs_mw "ValueError.__init__" a), g, d, tk + 1, os⟩ := by
      refine I2.pins_of fun p hp => ?_
      rw [List.mem_singleton.mp hp]
      refine ⟨hu, I1.hok.fresh (Nat.le_refl _), ?_, ?_, fun v z => by cases z⟩
      · exact fun z => absurd I1.lt (by rw [← z]; exact Nat.lt_irrefl _)
      · exact I1.nofs (Nat.le_refl _)
    refine PySem.W.kxs_callWith (i := "ValueError.__init__") (x := a) ?_ ?_
    · rw [hst]
      rfl
    · rw [hst]
      refine Calls.evalArgs_plain ?_
      have pa := (pa_cons (X := X) (e := .Constant (.str x) j p3) (es := []) pe_str pa_nil hst)
      have pr := pa.run p4 [(h1.objs.size, PySem.W.kxs_mw "ValueError.__init__" a)] _ σ H (fun vs H2 => vs = [.str x] ∧ H2 = H) I3 ⟨rfl, rfl⟩
      rw [hst] at pr
      refine thn pr fun us s4 got => ?_
      obtain ⟨vs, H4, I4, r4, e4, e5⟩ := got
      subst e4
      subst e5
      obtain ⟨hu4, _⟩ := I4.pin _ (List.mem_append_right _ (List.mem_singleton.mpr rfl))
      refine ⟨hu4, ?_⟩
      have hlen : us.length ≤ sizeLine := by
        rw [← r4.length]
        show 1 ≤ sizeLine
        decide
      obtain ⟨t4, ho4⟩ := exo_at I4.hok ea
      obtain ⟨h4, g4, d4, tk4, os4⟩ := s4
      refine call_mw (I4.kIn _ _ hC) ho4 hu4 hlen fun h' t' k e' => ?_
      have J := I4.write (t' := tk4) (x := a) (e := a) (o := exo a C none) (by rw [ea]; exact True.intro) (.inl rfl) k ⟨_, e'⟩ (exo_ok e')
      have eu : upd H4 a (exo a C none) = H4 := by
        funext b
        by_cases hb : b = a
        · rw [hb, upd_same, ea]
        · rw [upd_ne hb]
      rw [eu] at J
      exact h _ (J.pins_of fun p hp => absurd hp (by simp))

/-- THE RULE: an own exception's __init__ whose first row is super().__init__('..') -/
theorem fn_sup {CX : CXT} {P : Program} {w : World} {K : PySem.W.Frag} {mg : Str → Option Value} {base : Heap} {k : Nat} {f cc cda D : Addr} {name qual : Str} {params : Arguments} {body rest : List Stmt} {scope : Scope} {kV doc pm ct oc : Value} {an od : Option Addr}
    {osl : Array (Option Value)} {N ps : List Str} {sp : Sp} {ar : Arg} {p0 p1 p2 p3 p4 p5 : Pos} {x : Str} {j : Nat}
    (lk : K.lookup f = some ⟨oc, od, .func (PySem.W.ksFn name qual params body scope .none kV doc pm an (.ref cda) ct cc), osl⟩) (hcd : PySem.W.codeIn K (.ref cda) qual = true) (S : SupScope N ps scope) (F : SupF P K cda cc D)
    (hb : body = .Expr (.Call (.Attribute (.Call (.Name "super" p0) [] [] p1) "__init__" p2) [.Constant (.str x) j p3] [] p4) p5 :: rest) (hp : (params.posonlyargs ++ params.args).head? = some ar) (hN : N[0]? = some ar.arg) (hpa : ar.arg ∈ ps)
    (len : ∀ vs H Q E, sp vs H Q E → vs.length = ps.length)
    (hev : ∀ L : Addr, ∃ pl : Sem Bool, eval (.Call (.Attribute (.Call (.Name "super" p0) [] [] p1) "__init__" p2) [.Constant (.str x) j p3] [] p4) (PySem.W.ksEnv qual scope L f (.ref cda) cc) = (do
      let ov ← attributeBase (.Call (.Name "super" p0) [] [] p1) "__init__" (PySem.W.ksEnv qual scope L f (.ref cda) cc) (eval (.Call (.Name "super" p0) [] [] p1) (PySem.W.ksEnv qual scope L f (.ref cda) cc))
      standAt p2.atName
      let (g, first) ← holding [ov] (getMethod ov "__init__" pl)
      callWith p4 g first (backTo p4 (starEach [.Constant (.str x) j p3] (PySem.W.ksEnv qual scope L f (.ref cda) cc))) []))
    (hbody : ∀ (A : Around) (outer : List Env) (s : Shared) (H : Hp) (vs : List V) (Q : VK) (E : XK), Room k (A.deeper (PySem.W.ksEnv qual scope s.heap.objs.size f (.ref cda) cc)) → sp vs H Q E →
      ∃ a C, vs[0]? = some (.ref a) ∧ H a = some (exo a C none) ∧ SupC P K mg C D ∧ ∃ t, PSs (cxSup CX P w K mg base N qual scope f (.ref cda) cc A outer s H E) rest t ∧ t { nx := fun _ H' => Q .non H', rt := Q } (L2.start N vs) H) :
    FnOk P w K mg base CX (k + 1) f (PySem.W.ksFn name qual params body scope .none kV doc pm an (.ref cda) ct cc) ps sp := by
  refine ⟨len, fun A outer s H args us vs Q E hr e0 hbd r hsp => ?_⟩
  have hl := len _ _ _ _ hsp
  have KX : K.In s.heap := e0.mod.kin.keeps fun b o e => (e0.bs b o e).1
  have lim : s.heap.NoLimit := e0.mod.nolimit.keeps fun b o e => (e0.bs b o e).1
  obtain ⟨cl2, dcl2, sl2, hcell⟩ := F.cell
  refine PySem.ks_codeAny_call_defAt (fd := PySem.W.ksFn name qual params body scope .none kV doc pm an (.ref cda) ct cc) (body := body) hr.depth (KX _ _ lk) rfl lim (PySem.W.codeRec_of KX hcd) rfl hbd S.nocell (fun y hy => S.par _ (List.of_mem_zip hy).1) (fun h0 ns keep => ?_) S.co S.gen S.kind
  obtain ⟨a, C, hv0, ea, T, t, ht, hq⟩ := hbody A outer s H vs Q E (hr.deeper _) hsp
  have I : Inv (cxSup CX P w K mg base N qual scope f (.ref cda) cc A outer s H E) [] (L2.start N vs) H { s with heap := h0, toks := s.toks + (ps.zip us).length } := inv_sup S hr.hd e0 hl r hcell ns keep
  subst hb
  obtain ⟨pl, hpl⟩ := hev s.heap.objs.size
  refine PySem.ks_wpAt_execs_cons (sup_row (hev := hpl) (X := cxSup CX P w K mg base N qual scope f (.ref cda) cc A outer s H E) rfl S.sup S.cls (S.par _ hpa) lk hp F T I hN ?_ ea (fun s' J => ?_))
  · unfold L2.start
    have hlt : 0 < vs.length := (List.getElem?_eq_some_iff.mp hv0).1
    rw [List.getElem?_append_left (by simpa using hlt), List.getElem?_map, hv0]
    rfl
  · refine wpAt_of_wpAny ?_
    refine wpAny_mono (ht.run [] s' (L2.start N vs) H _ J hq) (fun fl s2 hs => ?_) fun e s2 hs => hs
    have fin : ∀ {σ' : L2.St} {H' : Hp} {v : V} {u : Value}, Inv (cxSup CX P w K mg base N qual scope f (.ref cda) cc A outer s H E) [] σ' H' s2 → RelV v u → Q v H' → CE outer P w H s Q u s2 :=
      fun {σ' H' v u} J rv q => ⟨v, H', J.os, J.bare, J.base, J.hok, rv, q⟩
    cases fl with
    | ret u =>
      obtain ⟨v, σ', H', J, rv, q⟩ := hs
      exact fin J rv q
    | next =>
      obtain ⟨σ', H', J, q⟩ := hs
      exact fin (v := V.non) (u := Value.none) J rfl q
    | brk =>
      obtain ⟨_, _, _, q⟩ := hs
      exact False.elim q
    | cont =>
      obtain ⟨_, _, _, q⟩ := hs
      exact False.elim q
end SpX

set_option Elab.async false
set_option linter.all false
set_option maxRecDepth 100000
set_option maxHeartbeats 2000000
/-! Static methods, str(instance), text * int. -/
namespace SpX
open PySem PySem.Spec PyProof.Rows L2
/-- C.m is a static method: its record at p, its def at g -/
structure SMet (K : PySem.W.Frag) (C : Addr) (mc : Value) (m : Str) (p g : Addr) : Prop where
  at_ : PySem.W.findCls K (.ref C) mc m = some (.get (.builtin "staticmethod.__get__") (.ref p) .none (.ref C))
  rc : ∃ rest, PySem.W.recIn K p "staticmethod" = some (.ref g :: rest)
  kp : PySem.W.keepIn K (.ref g) = true
section
variable {X : Cx} {CX : CXT} {k : Nat} {g C p : Addr} {mc : Value} {fd : FuncData} {ps : List Str} {sp : Sp} {E : L2.St → XK} {x m : Str} {p1 pos apos : Pos} {e : Expr} {es : List Expr} {t : TA}
/-- C.m(..), m static -/
def tSM (sp : Sp) (E : L2.St → XK) (t : TA) : TE := fun σ H Q => t σ H fun vs H1 => sp vs H1 Q (E σ)
theorem pe_sm {pl : Sem Bool} (hg : Gl X x) (hm : X.mg x = some (.ref C)) (r : ClX.CRead X.K C mc) (c : SMet X.K C mc m p g) (F : FnOk X.prog X.w X.K X.mg X.base CX k g fd ps sp) (room : Room k X.A) (hb : Binds X.K fd ps []) (hx : ∀ σ, PassesAt CX X σ (E σ)) (ha : PA X (e :: es) t)
    (hdb : (x == ("__debug__" : Str)) = false := by decide) (hst : starEach (e :: es) X.env = (false, eval e X.env) :: starEach es X.env := by rfl) (hpl : (backTo pos (starEach es X.env)).any (·.1) = false := by rfl)
    (ht : eval (.Call (.Attribute (.Name x p1) m apos) (e :: es) [] pos) X.env = (do
      let ov ← eval (.Name x p1) X.env
      standAt apos.atName
      let (f, first) ← holding [ov] (getMethod ov m pl)
      callWith pos f first (backTo pos (starEach (e :: es) X.env)) (backToKw pos (keywordEach [] X.env))) := by rfl) :
    PE X (.Call (.Attribute (.Name x p1) m apos) (e :: es) [] pos) (tSM sp E t) := by
  refine ⟨fun pins s σ H Q I h => ?_⟩
  refine PySem.W.methodCall_KW (pl := pl) (ld_glob I hg hm ?_ hdb) ht
  obtain ⟨rest, hp⟩ := c.rc
  refine PySem.W.method_cls I.kIn r.ga ?_
  refine PySem.W.cls_bind I.kIn r.rd c.at_ ?_
  refine wpAny_call (PySem.W.sm_get (s := { s with toks := s.toks + 1 }) I.kIn hp (PySem.W.handed_on rfl ?_))
  refine PySem.W.callWith_K (first := []) (h₀ := X.base) I.ok.mod.kin c.kp (thn (ha.run pos pins _ σ H _ (I.tok _) h) fun us s2 got2 => ?_) hst hpl
  obtain ⟨vs, H2, inv2, rv, q2⟩ := got2
  exact ⟨inv2.kIn, run_fnS F room hb (hx σ) inv2 rv q2⟩
/-- what passes on serves at every σ -/
theorem passesAt_of {CX : CXT} {E : XK} (hx : Passes CX X E) (σ : L2.St) : PassesAt CX X σ E := fun pins H s e s' I c => hx pins σ H s e s' I c
end
section
variable {X : Cx} {CX : CXT} {k : Nat} {f C : Addr} {fd : FuncData} {ps : List Str} {sp : Sp} {E : XK}
/-- str(instance) -/
def rOwnStr (C : Addr) (sp : Sp) (E : XK) : List V → Hp → VK → Prop := fun xs H Q => ∃ a dx fs, xs = [.ref a] ∧ H a = some (.ins C dx fs) ∧ sp [.ref a] H (fun v H' => ∃ y : Str, v = .str y ∧ Q v H') E
theorem call_strOwn (hs : PySem.W.findIn X.K (.ref C) "__str__" = some (some (.ref f))) (hf : PySem.W.isFn X.K (.ref f) = true) (F : FnOk X.prog X.w X.K X.mg X.base CX k f fd ps sp) (hr : Room (k + 2) X.A) (hb : Binds X.K fd ps []) (hx : Passes CX X E) :
    CallR X (.type "str") (rOwnStr C sp E) := by
  intro pins s σ H xs us Q I r h
  obtain ⟨a, dx, fs, rfl, ha, hsp⟩ := h
  obtain ⟨u, rfl, rx⟩ := vals1 r
  cases rx
  obtain ⟨mA, J, _⟩ := ins_get I.hok ha
  obtain ⟨od, J, _⟩ := J.look
  have sb : Sub X k X.A.in1.in1 := Sub.in1 (Sub.in1 (⟨hr, rfl⟩ : Sub X (k + 2) X.A))
  refine PySem.W.kso_call sb.room.units0 I.kIn J hs hf ?_
  refine thn (run_fnA (us := [.ref a]) (vs := [.ref a]) sb F hb hx I (.cons rfl .nil) hsp) fun u s' q => ?_
  obtain ⟨v, H', I', rv, y, rfl, q⟩ := q
  obtain ⟨t, rfl⟩ := rv
  exact ⟨.str y, H', I', ⟨t, rfl⟩, q⟩
def rMulS : R2 := fun x y H Q => ∃ a n, x = .str a ∧ y = .int n ∧ MulOk a n ∧ Q (.str (Txt.mul a n)) H
theorem op_mulS : OpR X (binaryOp .Mult) rMulS := by
  intro pins s σ H x y v u Q I rx ry h
  obtain ⟨a, n, rfl, rfl, ok, q⟩ := h
  obtain ⟨t, rfl⟩ := rx
  obtain ⟨t', rfl⟩ := ry
  exact SB.mul ok fun t' k => ⟨.str _, H, I.tok _, ⟨_, rfl⟩, q⟩
end
/-- isinstance of the caught exception with a dict, its class being the one at D -/
def rCaughtD (K : PySem.W.Frag) (D a : Addr) (cls : Value) (d : Option Addr) : List V → Hp → VK → Prop := fun xs H Q => cls = .ref D ∧ (∃ (dd : Addr) (fs : List (Str × V)), d = some dd ∧ H dd = some (.xd fs)) ∧ rIsE K D a xs H Q
theorem call_caughtD {X : Cx} {a D : Addr} {oe : Obj} {cls : Value} {d : Option Addr} {pn : List (Addr × Obj)} (C : ExcC X.K D) (hz : Zc cls d oe) (hf : ∃ vs, oe.data = .fields vs) : CallR (X.suite a ((a, oe) :: pn)) (.builtin "isinstance") (rCaughtD X.K D a cls d) := by
  intro pins s σ H xs us Q I r h
  obtain ⟨rfl, ⟨dd, fs, rfl, ed⟩, h⟩ := h
  obtain ⟨c, cv, b, rfl, hcv, e, q⟩ := h
  cases r with
  | cons rx rr =>
    cases rr with
    | cons rt rr =>
      cases rr
      cases rx
      have ec := hcv _ rt
      subst ec
      obtain ⟨hget, _⟩ := I.pin (a, oe) (List.mem_append.mpr (.inl List.mem_cons_self))
      obtain ⟨vs, hv⟩ := hf
      have hx : ObjOk X.prog X.w H s.heap dd (.xd fs) := I.hok dd _ ed
      obtain ⟨mA, hns, hr⟩ := hx
      obtain ⟨od, ho, hl⟩ := lookIn_ns hns
      have J : PySem.W.InstAt s.heap a oe D (some od) := ⟨hget, hz.1, by unfold PySem.W.notCls; rw [hv] <;> rfl, by rw [hz.2]; exact ho⟩
      have hcl : (PySem.W.clsIn X.K D).isSome = true := by
        obtain ⟨cd, hc, _⟩ := PySem.W.any_some C.hd
        rw [hc]
        rfl
      exact PySem.W.kia_one (PySem.W.kitx_exc (od := some od) (ox := oe) hcl C.hg C.hk C.hs C.ha C.hn C.ht C.hm) I.kIn J e (fun z => nomatch z) fun tk => ⟨.bl b, H, I.kept (t' := tk) fun _ _ z => z, rfl, q⟩
section
variable {D : Ends} {σ : L2.St} {H : Hp} {Q : VK} {a b : Str} {i : Int} {tt : TT} {ts : TS} {to te : TE} {r : V → List V → Hp → VK → Prop}
theorem x_eqS : rEq (.str a) (.str b) H Q = Q (.bl (decide (a = b))) H := by
  unfold rEq scal
  simp
theorem x_neS : rNe (.str a) (.str b) H Q = Q (.bl (!decide (a = b))) H := by
  unfold rNe scal
  simp
theorem x_m0 : tM0 r to σ H Q = to σ H (fun x H1 => (∃ a, x = .str a) ∧ r x [] H1 Q) := rfl
theorem x_m1 : tM1 r to te σ H Q = to σ H (fun x H1 => (∃ a, x = .str a) ∧ te σ H1 fun y H2 => r x [y] H2 Q) := rfl
theorem x_isStr {P : Prop} : ((∃ b : Str, V.str a = .str b) ∧ P) = P := by simp
theorem x_SM {sp : Sp} {E : L2.St → XK} {t : TA} : tSM sp E t σ H Q = t σ H (fun vs H1 => sp vs H1 Q (E σ)) := rfl
def rAddT : R2 := fun x y H Q => ∃ i j : Str, x = .str i ∧ y = .str j ∧ i.length + j.length ≤ sizeLine ∧ Q (.str (i ++ j)) H
theorem op_addT {X : Cx} : OpR X (binaryOp .Add) rAddT := op_add_str
theorem x_addT : rAddT (.str a) (.str b) H Q = (a.length + b.length ≤ sizeLine ∧ Q (.str (a ++ b)) H) := propext ⟨fun ⟨_, _, e1, e2, h, q⟩ => by cases e1; cases e2; exact ⟨h, q⟩, fun ⟨h, q⟩ => ⟨_, _, rfl, rfl, h, q⟩⟩
theorem x_slS {lo hi : Option Int} : rSlS (.str a) lo hi H Q = (a.length ≤ sizeLine ∧ Q (.str (cutS a lo hi)) H) := propext ⟨fun ⟨_, e1, h, q⟩ => by cases e1; exact ⟨h, q⟩, fun ⟨h, q⟩ => ⟨_, rfl, h, q⟩⟩
def rLenT : List V → Hp → VK → Prop := fun xs H Q => ∃ z : Str, xs = [.str z] ∧ z.length ≤ sizeLine ∧ Q (.int z.length) H
theorem call_lenT {X : Cx} : CallR X (.builtin "len") rLenT := call_len_str
theorem x_lenT : rLenT [.str a] H Q = (a.length ≤ sizeLine ∧ Q (.int a.length) H) := propext ⟨fun ⟨_, e1, h, q⟩ => by cases e1; exact ⟨h, q⟩, fun ⟨h, q⟩ => ⟨_, rfl, h, q⟩⟩
def rStrI : List V → Hp → VK → Prop := fun xs H Q => ∃ i : Int, xs = [.int i] ∧ i.natAbs.log2 < 1920 ∧ Q (.str (toString i)) H
theorem call_strI {X : Cx} : CallR X (.type "str") rStrI := call_str_int
theorem x_strI : rStrI [.int i] H Q = (i.natAbs.log2 < 1920 ∧ Q (.str (toString i)) H) := propext ⟨fun ⟨_, e1, h, q⟩ => by cases e1; exact ⟨h, q⟩, fun ⟨h, q⟩ => ⟨_, rfl, h, q⟩⟩
def rIntT : List V → Hp → VK → Prop := fun xs H Q => ∃ (a : Str) (n : Int), xs = [.str a] ∧ PySem.intText? a = some n ∧ a.length ≤ 640 ∧ Q (.int n) H
theorem call_intT {X : Cx} : CallR X (.type "int") rIntT := call_int_str
theorem x_intT {n : Int} (h : PySem.intText? a = some n) (hl : a.length ≤ 640) : rIntT [.str a] H Q = Q (.int n) H := propext ⟨fun ⟨_, _, e1, e2, _, q⟩ => by cases e1; rw [h] at e2; cases e2; exact q, fun q => ⟨_, _, rfl, h, hl, q⟩⟩
theorem x_mulS {n : Int} : rMulS (.str a) (.int n) H Q = (MulOk a n ∧ Q (.str (Txt.mul a n)) H) := propext ⟨fun ⟨_, _, e1, e2, h, q⟩ => by cases e1; cases e2; exact ⟨h, q⟩, fun ⟨h, q⟩ => ⟨_, _, rfl, rfl, h, q⟩⟩
def rStartT : V → List V → Hp → VK → Prop := fun x xs H Q => ∃ a b : Str, x = .str a ∧ xs = [.str b] ∧ Q (.bl (Txt.startswith a b)) H
def rFindT : V → List V → Hp → VK → Prop := fun x xs H Q => ∃ a b : Str, x = .str a ∧ xs = [.str b] ∧ Q (.int (Txt.find a b)) H
def rPreT : V → List V → Hp → VK → Prop := fun x xs H Q => ∃ a b : Str, x = .str a ∧ xs = [.str b] ∧ a.length ≤ sizeLine ∧ Q (.str (Txt.removeprefix a b)) H
def rLstT : V → List V → Hp → VK → Prop := fun x xs H Q => ∃ a b : Str, x = .str a ∧ xs = [.str b] ∧ a.length ≤ sizeLine ∧ Q (.str (Txt.lstripChars a b)) H
def rZfT : V → List V → Hp → VK → Prop := fun x xs H Q => ∃ (a : Str) (i : Int), x = .str a ∧ xs = [.int i] ∧ PadOk i = true ∧ Q (.str (Txt.zfill a i)) H
def rAscT : V → List V → Hp → VK → Prop := fun x xs H Q => ∃ a : Str, x = .str a ∧ xs = [] ∧ True ∧ Q (.bl (Txt.isascii a)) H
def rDigT : V → List V → Hp → VK → Prop := fun x xs H Q => ∃ a : Str, x = .str a ∧ xs = [] ∧ True ∧ Q (.bl (Txt.isdigit a)) H
def rParT : V → List V → Hp → VK → Prop := fun x xs H Q => ∃ a b : Str, x = .str a ∧ xs = [.str b] ∧ (b.length == 0) = false ∧ a.length ≤ sizeLine ∧ ∀ p, H p = none → Q (.ref p) (upd H p (.tup [.str (Txt.partition a b).1, .str (Txt.partition a b).2.1, .str (Txt.partition a b).2.2]))
def rSplT : V → List V → Hp → VK → Prop := fun x xs H Q => ∃ a b : Str, x = .str a ∧ xs = [.str b] ∧ (b.length == 0) = false ∧ a.length + 2 ≤ sizeLine ∧ ∀ p, H p = none → Q (.ref p) (upd H p (.lst ((Txt.split a b).map V.str)))
theorem x_startT : rStartT (.str a) [.str b] H Q = Q (.bl (Txt.startswith a b)) H := propext ⟨fun ⟨_, _, e1, e2, q⟩ => by cases e1; cases e2; exact q, fun q => ⟨_, _, rfl, rfl, q⟩⟩
theorem x_findT : rFindT (.str a) [.str b] H Q = Q (.int (Txt.find a b)) H := propext ⟨fun ⟨_, _, e1, e2, q⟩ => by cases e1; cases e2; exact q, fun q => ⟨_, _, rfl, rfl, q⟩⟩
theorem x_preT : rPreT (.str a) [.str b] H Q = (a.length ≤ sizeLine ∧ Q (.str (Txt.removeprefix a b)) H) := propext ⟨fun ⟨_, _, e1, e2, h, q⟩ => by cases e1; cases e2; exact ⟨h, q⟩, fun ⟨h, q⟩ => ⟨_, _, rfl, rfl, h, q⟩⟩
theorem x_lstT : rLstT (.str a) [.str b] H Q = (a.length ≤ sizeLine ∧ Q (.str (Txt.lstripChars a b)) H) := propext ⟨fun ⟨_, _, e1, e2, h, q⟩ => by cases e1; cases e2; exact ⟨h, q⟩, fun ⟨h, q⟩ => ⟨_, _, rfl, rfl, h, q⟩⟩
theorem x_zfT (h : PadOk i = true) : rZfT (.str a) [.int i] H Q = Q (.str (Txt.zfill a i)) H := propext ⟨fun ⟨_, _, e1, e2, _, q⟩ => by cases e1; cases e2; exact q, fun q => ⟨_, _, rfl, rfl, h, q⟩⟩
theorem x_ascT : rAscT (.str a) [] H Q = Q (.bl (Txt.isascii a)) H := propext ⟨fun ⟨_, e1, _, _, q⟩ => by cases e1; exact q, fun q => ⟨_, rfl, rfl, trivial, q⟩⟩
theorem x_digT : rDigT (.str a) [] H Q = Q (.bl (Txt.isdigit a)) H := propext ⟨fun ⟨_, e1, _, _, q⟩ => by cases e1; exact q, fun q => ⟨_, rfl, rfl, trivial, q⟩⟩
theorem x_parT (h : (b.length == 0) = false) : rParT (.str a) [.str b] H Q = (a.length ≤ sizeLine ∧ ∀ p, H p = none → Q (.ref p) (upd H p (.tup [.str (Txt.partition a b).1, .str (Txt.partition a b).2.1, .str (Txt.partition a b).2.2]))) := propext ⟨fun ⟨_, _, e1, e2, _, h, q⟩ => by cases e1; cases e2; exact ⟨h, q⟩, fun ⟨h', q⟩ => ⟨_, _, rfl, rfl, h, h', q⟩⟩
theorem x_splT (h : (b.length == 0) = false) : rSplT (.str a) [.str b] H Q = (a.length + 2 ≤ sizeLine ∧ ∀ p, H p = none → Q (.ref p) (upd H p (.lst ((Txt.split a b).map V.str)))) := propext ⟨fun ⟨_, _, e1, e2, _, h, q⟩ => by cases e1; cases e2; exact ⟨h, q⟩, fun ⟨h', q⟩ => ⟨_, _, rfl, rfl, h, h', q⟩⟩
end
section
variable {X : Cx}
theorem mt_startT : MtR X "str.startswith" rStartT := mt_startswith
theorem mt_findT : MtR X "str.find" rFindT := mt_find
theorem mt_preT : MtR X "str.removeprefix" rPreT := mt_removeprefix
theorem mt_lstT : MtR X "str.lstrip" rLstT := mt_lstripChars
theorem mt_zfT : MtR X "str.zfill" rZfT := mt_zfill
theorem mt_ascT : MtR X "str.isascii" rAscT := mt_isascii
theorem mt_digT : MtR X "str.isdigit" rDigT := mt_isdigit
theorem mt_parT : MtR X "str.partition" rParT := mt_partition
theorem mt_splT : MtR X "str.split" rSplT := mt_split
end
/-! ### f-strings, join, truth, divmod, constants -/
def tJn (ts : List TE) : TE := fun σ H Q => tJs ts Str.empty σ H fun out H1 => Q (.str out) H1
def rJoinT (K : PySem.W.Frag) : V → List V → Hp → VK → Prop := fun x xs H Q => ∃ (a : Str) (p : Addr) (ys : List Str), x = .str a ∧ xs = [.ref p] ∧ (SqL K H p (ys.map V.str) ∨ SqT K H p (ys.map V.str)) ∧ (ys.map (·.length)).sum + ys.length * a.length ≤ 16777216 ∧ Q (.str (Txt.join a ys)) H
theorem mt_joinT {X : Cx} : MtR X "str.join" (rJoinT X.K) := mt_join
def tTruK (K : PySem.W.Frag) (ta : TE) : TT := fun σ H Q => ta σ H fun x H' => ∃ k, TruV K x H' k ∧ Q k H'
def rDivW : List V → Hp → VK → Prop := fun xs H Q => ∃ i j, xs = [.int i, .int j] ∧ CDivP i j ∧ ∀ p, H p = none → Q (.ref p) (upd H p (.tup [.int (i / j), .int (i % j)]))
theorem pe_gc {X : Cx} {x : Str} {v : V} {pos : Pos} (hg : Gl X x) (h : ∃ u, X.mg x = some u ∧ RelV v u) (hd : (x == ("__debug__" : Str)) = false := by decide) : PE X (.Name x pos) (tC v) := by
  obtain ⟨u, hm, r⟩ := h
  exact pe_glob hg hm r hd
section
variable {σ : L2.St} {H : Hp} {Q : VK} {te : TE} {ts : List TE} {i j : Int} {a y : Str}
theorem x_jn : tJn ts σ H Q = tJs ts Str.empty σ H (fun out H1 => Q (.str out) H1) := rfl
theorem x_js0 {acc : Str} {R : Str → Hp → Prop} : tJs [] acc σ H R = R acc H := rfl
theorem x_js1 {acc : Str} {R : Str → Hp → Prop} : tJs (te :: ts) acc σ H R = te σ H (fun x H1 => ∃ y : Str, x = .str y ∧ (acc ++ y).length ≤ sizeLine ∧ tJs ts (acc ++ y) σ H1 R) := rfl
theorem x_isS {P : Str → Prop} : (∃ y : Str, V.str a = .str y ∧ P y) = P a := by simp
theorem x_fmt : tFmt te σ H Q = te σ H (fun x H1 => (∃ y : Str, x = .str y ∧ y.length ≤ sizeLine ∧ Q (.str y) H1) ∨ ∃ i : Int, x = .int i ∧ i.natAbs.log2 < 1920 ∧ Q (.str (toString i)) H1) := rfl
theorem x_fmtS {R : Str → Prop} : ((∃ z : Str, V.str y = .str z ∧ z.length ≤ sizeLine ∧ R z) ∨ ∃ i : Int, V.str y = .int i ∧ i.natAbs.log2 < 1920 ∧ R (toString i)) = (y.length ≤ sizeLine ∧ R y) := by simp
theorem x_divW : rDivW [.int i, .int j] H Q = (CDivP i j ∧ ∀ p, H p = none → Q (.ref p) (upd H p (.tup [.int (i / j), .int (i % j)]))) := propext ⟨fun ⟨_, _, e1, h, q⟩ => by cases e1; exact ⟨h, q⟩, fun ⟨h, q⟩ => ⟨_, _, rfl, h, q⟩⟩
theorem x_truK {K : PySem.W.Frag} {R : Bool → Hp → Prop} : tTruK K te σ H R = te σ H (fun x H' => ∃ k, TruV K x H' k ∧ R k H') := rfl
theorem x_truS {K : PySem.W.Frag} {R : Bool → Prop} : (∃ k, TruV K (.str y) H k ∧ R k) = (y.length ≤ sizeLine ∧ R ((y.length : Int) != 0)) := propext ⟨fun ⟨k, ⟨h1, h2⟩, q⟩ => ⟨h1, by rw [← h2]; exact q⟩, fun ⟨h1, q⟩ => ⟨_, ⟨h1, rfl⟩, q⟩⟩
end
/-! ### an own error that is made of a text -/
/-- class D's own __init__: super().__init__('..'), then self.text = text -/
def spBT (P : Program) (K : PySem.W.Frag) (mg : Str → Option Value) (D : Addr) : Sp := fun vs H Q _ => ∃ (a C : Addr) (v : V), vs = [.ref a, v] ∧ H a = some (exo a C none) ∧ SupC P K mg C D ∧ OexC K C ∧ PySem.W.findIn K (.ref C) "text" = some none ∧
  ∀ dx, H dx = none → dx ≠ a → Q .non (upd (upd H dx (exd dx [("text", v)])) a (exo a C (some dx)))
def t_bt (K : PySem.W.Frag) : TS := tOst K "text" (tVar 0) (tVar 1)
theorem pure_bt {P : Program} {K : PySem.W.Frag} {mg : Str → Option Value} {D : Addr} (vs : List V) (H : Hp) (Q : VK) (E : XK) (h : spBT P K mg D vs H Q E) :
    ∃ a C, vs[0]? = some (.ref a) ∧ H a = some (exo a C none) ∧ SupC P K mg C D ∧ t_bt K { nx := fun _ H' => Q .non H', rt := Q } (L2.start ["self", "text"] vs) H := by
  obtain ⟨a, C, v, rfl, ea, sc, oc, hno, k⟩ := h
  refine ⟨a, C, rfl, ea, sc, ?_⟩
  show t_bt K _ [some (.ref a), some v] H
  unfold t_bt tOst
  simp only [x_varS, x_var0]
  exact ⟨a, C, rfl, oc, hno, .inl ⟨ea, k⟩⟩
/-- raise C(e), C's own __init__ being that of D -/
def rTail (P : Program) (K : PySem.W.Frag) (mg : Str → Option Value) (D C : Addr) (W : XK) : V → Hp → Prop := fun v H1 => [v].length ≤ 1000 ∧ ∀ a, H1 a = none → spBT P K mg D (.ref a :: ([v] ++ [])) (upd H1 a (exo a C none))
  (fun v H2 => v = .non ∧ ∃ (d : Addr) (fs : List (Str × V)), H2 a = some (exo a C (some d)) ∧ H2 d = some (exd d fs) ∧ H1 d = none ∧ W (.ref C) (some d) (upd (del H2 a) d (.xd fs))) (fun _ _ _ => False)
def tRaiseT (P : Program) (K : PySem.W.Frag) (mg : Str → Option Value) (D C : Addr) (W : WX) (ta : TE) : TS := fun _ σ H => ta σ H fun v H1 => rTail P K mg D C (fun cls d H' => W cls d σ H') v H1
theorem x_raiseT {P : Program} {K : PySem.W.Frag} {mg : Str → Option Value} {D C : Addr} {W : WX} {ta : TE} {DD : Ends} {σ : L2.St} {H : Hp} : tRaiseT P K mg D C W ta DD σ H = ta σ H (fun v H1 => rTail P K mg D C (fun cls d H' => W cls d σ H') v H1) := rfl
/-- what the text says of the class C, whose __init__ is D's -/
structure TxtE (P : Program) (K : PySem.W.Frag) (mg : Str → Option Value) (D C fI : Addr) : Prop where
  ox : OexC K C
  ic : PySem.W.findIn K (.ref C) "__init__" = some (some (.ref fI))
  sc : SupC P K mg C D
  nt : PySem.W.findIn K (.ref C) "text" = some none
theorem tail_of {P : Program} {K : PySem.W.Frag} {mg : Str → Option Value} {D C fI : Addr} {W : XK} {v : V} {H1 : Hp} (T : TxtE P K mg D C fI) (k : ∀ d, H1 d = none → W (.ref C) (some d) (upd H1 d (.xd [("text", v)]))) : rTail P K mg D C W v H1 := by
  refine ⟨by simp, fun a ha => ⟨a, C, v, rfl, upd_same, T.sc, T.ox, T.nt, fun dx hdx hne => ⟨rfl, dx, _, upd_same, by rw [upd_ne hne, upd_same], ?_, ?_⟩⟩⟩
  · rw [upd_ne hne] at hdx
    exact hdx
  · have hd : H1 dx = none := by
      rw [upd_ne hne] at hdx
      exact hdx
    have e : upd (del (upd (upd (upd H1 a (exo a C none)) dx (exd dx [("text", v)])) a (exo a C (some dx))) a) dx (.xd [("text", v)]) = upd H1 dx (.xd [("text", v)]) := by
      funext b
      by_cases h1 : b = dx
      · rw [h1, upd_same, upd_same]
      · rw [upd_ne h1, upd_ne h1]
        by_cases h2 : b = a
        · rw [h2, del_same, ha]
        · rw [del_ne h2, upd_ne h2, upd_ne h1, upd_ne h2]
    rw [e]
    exact k dx hd
theorem ps_raiseT {X : Cx} {W : WX} {k : Nat} {x : Str} {C D fI : Addr} {fd : FuncData} {ps : List Str} {e : Expr} {te : TE} {p pos pos' : Pos} (hc : X.calm = true) (tk : Takes X W) (T : TxtE X.prog X.K X.mg D C fI) (tI : PySem.W.typeIn X.K (.ref fI) = some (.type "function"))
    (F : FnOk X.prog X.w X.K X.mg X.base CX0 k fI fd ps (spBT X.prog X.K X.mg D)) (hr : Room (k + 1) X.A) (hb : Binds X.K fd ps []) (hg : Gl X x) (hm : X.mg x = some (.ref C)) (he : PE X e te)
    (hdb : (x == ("__debug__" : Str)) = false := by decide) (hst : starEach [e] X.env = (false, eval e X.env) :: starEach [] X.env := by rfl) (hpl : (backTo pos (starEach [] X.env)).any (·.1) = false := by rfl) :
    PS X (.Raise (some (.Call (.Name x p) [e] [] pos)) none pos') (tRaiseT X.prog X.K X.mg D C W te) :=
  ps_raise hc tk (pmk_oex (dvs := []) (ds := []) T.ox T.ic tI F hr hb .nil pass0 hg hm (pa_cons he pa_nil hst) hdb hst hpl)
end SpX

set_option Elab.async false
set_option linter.all false
/-! == of lists with any texts in them. -/
namespace SpX
open PySem PySem.Spec L2
def rEqP (K : PySem.W.Frag) : R2 := fun x y H Q => ∃ d e, Dp K H x d ∧ Dp K H y e ∧ PyData.plain d = true ∧ PyData.plain e = true ∧ d.depth ≤ 64 ∧ Q (.bl (PyData.eqv d e)) H
theorem op_eqP {X : Cx} (hu : X.A.units + 64 < cLine) : OpR X (compareOp .Eq) (rEqP X.K) := by
  intro pins s σ H x y v u Q I rx ry h
  obtain ⟨d, e, hd, he, sd, se, l, q⟩ := h
  obtain ⟨as, r1⟩ := Dp.reads I d x v hd rx
  obtain ⟨bs, r2⟩ := Dp.reads I e y u he ry
  exact SeqAt.eq_plain r1 r2 sd se (by omega) ⟨.bl _, H, I, rfl, q⟩
theorem pl5 {a b c d : Bool} {e : Str} : PyData.plain (.list [.bool a, .bool b, .bool c, .bool d, .str e]) = true := rfl
theorem dp5 {a b c d : Bool} {e : Str} : PyData.depth (.list [.bool a, .bool b, .bool c, .bool d, .str e]) ≤ 64 := by
  simp [PyData.depth, PyData.depthAll]
end SpX

set_option Elab.async false
set_option linter.all false
set_option maxRecDepth 100000
set_option maxHeartbeats 2000000
/-! Texts of numbers, as lists of code points. -/
namespace SpX
open PySem PySem.Spec NumText
abbrev numD (n : Nat) : List Nat := TL.numL n
theorem num_lt {n : Nat} (h : n < 10) : numD n = [48 + n] := TL.numL_lt h
theorem num_step {n : Nat} (h : 10 ≤ n) : numD n = numD (n / 10) ++ [48 + n % 10] := TL.numL_step h
theorem num_ne (n : Nat) : numD n ≠ [] := TL.numL_ne n
theorem num_dig (n : Nat) : AllDigits (numD n) := TL.numL_digits n
theorem num_val (n : Nat) : digitsVal (numD n) = n := TL.numL_val n
theorem num_len {n k : Nat} (hk : 0 < k) (h : n < 10 ^ k) : (numD n).length ≤ k := TL.numL_len hk h
/-- digits without a zero ahead -/
structure Canon (x : List Nat) : Prop where
  dig : AllDigits x
  ne : x ≠ []
  lead : 1 < x.length → x.head? ≠ some 48
theorem snoc_rec {P : List Nat → Prop} (n0 : P []) (n1 : ∀ l a, P l → P (l ++ [a])) (l : List Nat) : P l := by
  have h : ∀ k : List Nat, P k.reverse := fun k => by
    induction k with
    | nil => exact n0
    | cons a k ih =>
      rw [List.reverse_cons]
      exact n1 _ _ ih
  have e := h l.reverse
  rwa [List.reverse_reverse] at e
theorem digitsVal_snoc (x : List Nat) (c : Nat) : digitsVal (x ++ [c]) = digitsVal x * 10 + (c - 48) := by
  unfold digitsVal
  rw [List.foldl_append]
  rfl
theorem digitsVal_append (x y : List Nat) : digitsVal (x ++ y) = digitsVal x * 10 ^ y.length + digitsVal y := by
  refine snoc_rec (P := fun y => digitsVal (x ++ y) = digitsVal x * 10 ^ y.length + digitsVal y) (by simp [digitsVal]) (fun y c ih => ?_) y
  rw [← List.append_assoc, digitsVal_snoc, digitsVal_snoc, ih, List.length_append, List.length_singleton, Nat.pow_succ, Nat.add_mul, Nat.mul_assoc]
  omega
theorem digitsVal_lt {x : List Nat} : AllDigits x → digitsVal x < 10 ^ x.length := by
  refine snoc_rec (P := fun x => AllDigits x → digitsVal x < 10 ^ x.length) (fun _ => by decide) (fun y c ih h => ?_) x
  have h1 := ih fun d hd => h d (List.mem_append_left _ hd)
  have h2 := h c (List.mem_append_right _ (List.mem_singleton.mpr rfl))
  rw [digitsVal_snoc, List.length_append, List.length_singleton, Nat.pow_succ]
  omega
theorem digitsVal_pos {x : List Nat} (h : AllDigits x) (hne : x ≠ []) (hl : x.head? ≠ some 48) : 1 ≤ digitsVal x := by
  cases x with
  | nil => exact absurd rfl hne
  | cons c r =>
    have hc := h.head
    have : c ≠ 48 := fun e => hl (by rw [e]; rfl)
    have e : digitsVal ([c] ++ r) = digitsVal [c] * 10 ^ r.length + digitsVal r := digitsVal_append [c] r
    have e1 : digitsVal [c] = c - 48 := by simp [digitsVal]
    have hp : 0 < 10 ^ r.length := Nat.pow_pos (by decide)
    show 1 ≤ digitsVal ([c] ++ r)
    rw [e, e1]
    have : 1 * 1 ≤ (c - 48) * 10 ^ r.length := Nat.mul_le_mul (by omega) hp
    omega
/-- digits without a zero ahead are the number's own -/
theorem canon_num {x : List Nat} : Canon x → numD (digitsVal x) = x := by
  refine snoc_rec (P := fun x => Canon x → numD (digitsVal x) = x) (fun h => absurd rfl h.ne) (fun y c ih h => ?_) x
  have hc := h.dig c (List.mem_append_right _ (List.mem_singleton.mpr rfl))
  rw [digitsVal_snoc]
  by_cases hy : y = []
  · subst hy
    have e1 : digitsVal [] = 0 := rfl
    rw [e1, Nat.zero_mul, Nat.zero_add, num_lt (by omega), List.nil_append]
    congr 1
    omega
  · have dy : AllDigits y := fun d hd => h.dig d (List.mem_append_left _ hd)
    have hh : (y ++ [c]).head? = y.head? := by
      cases y with
      | nil => exact absurd rfl hy
      | cons a r => rfl
    have hlen : 1 < (y ++ [c]).length := by
      rw [List.length_append, List.length_singleton]
      have := List.length_pos_iff.mpr hy
      omega
    have hne := h.lead hlen
    rw [hh] at hne
    have p := digitsVal_pos dy hy hne
    rw [num_step (by omega)]
    have e1 : (digitsVal y * 10 + (c - 48)) / 10 = digitsVal y := by omega
    have e2 : (digitsVal y * 10 + (c - 48)) % 10 = c - 48 := by omega
    rw [e1, e2, ih ⟨dy, hy, fun _ => hne⟩]
    congr 2
    omega
theorem num_canon (n : Nat) : Canon (numD n) := by
  refine ⟨TL.numL_digits n, num_ne n, ?_⟩
  induction n using Nat.strongRecOn with
  | _ n ih =>
    intro hl
    by_cases h : n < 10
    · rw [num_lt h] at hl
      exact absurd hl (by simp)
    · rw [num_step (n := n) (by omega)]
      have hne := num_ne (n / 10)
      have hh : (numD (n / 10) ++ [48 + n % 10]).head? = (numD (n / 10)).head? := by
        cases e : numD (n / 10) with
        | nil => exact absurd e hne
        | cons a r => rfl
      rw [hh]
      by_cases h2 : n / 10 < 10
      · rw [num_lt h2]
        intro e
        have := Option.some.inj e
        omega
      · have := ih (n / 10) (by omega)
        refine this ?_
        rw [num_step (n := n / 10) (by omega), List.length_append, List.length_singleton]
        have := List.length_pos_iff.mpr (num_ne (n / 10 / 10))
        omega
theorem num_head {n : Nat} (h : 1 ≤ n) : (numD n).head? ≠ some 48 := by
  by_cases hl : 1 < (numD n).length
  · exact (num_canon n).lead hl
  · have h9 : n < 10 := by
      have h1 := digitsVal_lt (num_dig n)
      rw [num_val] at h1
      have h2 : (numD n).length ≤ 1 := by omega
      have h3 : 10 ^ (numD n).length ≤ 10 ^ 1 := Nat.pow_le_pow_right (by decide) h2
      omega
    rw [num_lt h9]
    intro e
    have := Option.some.inj e
    omega
/-- a number with more digits behind: q * 10 ^ k + r, r written in k digits -/
theorem num_join {q k : Nat} {r : List Nat} (hq : 1 ≤ q) (hr : AllDigits r) (hk : r.length = k) : numD (q * 10 ^ k + digitsVal r) = numD q ++ r := by
  have hc : Canon (numD q ++ r) := by
    refine ⟨fun c hc => ?_, ?_, fun _ => ?_⟩
    · rcases List.mem_append.mp hc with h | h
      · exact TL.numL_digits q c h
      · exact hr c h
    · intro e
      exact num_ne q (List.append_eq_nil_iff.mp e).1
    · have hh : (numD q ++ r).head? = (numD q).head? := by
        cases e : numD q with
        | nil => exact absurd e (num_ne q)
        | cons a t => rfl
      rw [hh]
      exact num_head hq
  have e := canon_num hc
  rw [digitsVal_append, num_val q, hk] at e
  exact e
theorem zeros_val (m : Nat) (x : List Nat) : digitsVal (List.replicate m 48 ++ x) = digitsVal x := by
  have e : ∀ m, digitsVal (List.replicate m 48) = 0 := fun m => by
    induction m with
    | zero => rfl
    | succ m ih => rw [List.replicate_succ', digitsVal_snoc, ih]
  rw [digitsVal_append, e, Nat.zero_mul, Nat.zero_add]
theorem zeros_dig {m : Nat} {x : List Nat} (h : AllDigits x) : AllDigits (List.replicate m 48 ++ x) := fun c hc => by
  rcases List.mem_append.mp hc with h1 | h1
  · rw [(List.mem_replicate.mp h1).2]
    omega
  · exact h c h1
/-- the low k digits, zeros ahead -/
def padD (k n : Nat) : List Nat := List.replicate (k - (numD n).length) 48 ++ numD n
theorem padD_len {k n : Nat} (hk : 0 < k) (h : n < 10 ^ k) : (padD k n).length = k := by
  have := num_len hk h
  unfold padD
  rw [List.length_append, List.length_replicate]
  omega
theorem padD_val (k n : Nat) : digitsVal (padD k n) = n := by
  unfold padD
  rw [zeros_val]
  exact TL.numL_val n
theorem padD_dig (k n : Nat) : AllDigits (padD k n) := zeros_dig (TL.numL_digits n)
theorem num_pad {q k r : Nat} (hq : 1 ≤ q) (hk : 0 < k) (hr : r < 10 ^ k) : numD (q * 10 ^ k + r) = numD q ++ padD k r := by
  have e := num_join hq (padD_dig k r) (padD_len hk hr)
  rwa [padD_val] at e
theorem drop_zeros {m : Nat} {x : List Nat} (h : x.head? ≠ some 48) : (List.replicate m 48 ++ x).dropWhile (· == 48) = x := by
  induction m with
  | zero =>
    cases x with
    | nil => rfl
    | cons a r =>
      have : a ≠ 48 := fun e => h (by rw [e]; rfl)
      show (a :: r).dropWhile _ = _
      rw [List.dropWhile_cons, if_neg (by simpa using this)]
  | succ m ih =>
    rw [List.replicate_succ, List.cons_append, List.dropWhile_cons, if_pos (by decide)]
    exact ih
/-! ### the written form of a number, and the two ways to read it -/
/-- the text of t / b -/
def written (t b : Int) : List Nat := (if t < 0 then [45] else []) ++ numD t.natAbs ++ (if b = 1 then [] else 47 :: numD b.natAbs)
/-- up to the first sign 47, and what stands behind it -/
def part47 : List Nat → List Nat × Option (List Nat)
  | [] => ([], none)
  | c :: r => if c = 47 then ([], some r) else ((c :: (part47 r).1), (part47 r).2)
theorem part47_free {x : List Nat} (h : 47 ∉ x) : part47 x = (x, none) := by
  induction x with
  | nil => rfl
  | cons c r ih =>
    have hc : c ≠ 47 := fun e => h (by rw [e]; exact List.mem_cons_self)
    have hr : 47 ∉ r := fun e => h (List.mem_cons_of_mem _ e)
    unfold part47
    rw [if_neg hc, ih hr]
theorem part47_at {x y : List Nat} (h : 47 ∉ x) : part47 (x ++ 47 :: y) = (x, some y) := by
  induction x with
  | nil => rfl
  | cons c r ih =>
    have hc : c ≠ 47 := fun e => h (by rw [e]; exact List.mem_cons_self)
    have hr : 47 ∉ r := fun e => h (List.mem_cons_of_mem _ e)
    show part47 (c :: (r ++ 47 :: y)) = _
    unfold part47
    rw [if_neg hc, ih hr]
theorem part47_back (x : List Nat) : x = (part47 x).1 ++ (match (part47 x).2 with | none => [] | some y => 47 :: y) ∧ 47 ∉ (part47 x).1 := by
  induction x with
  | nil => exact ⟨rfl, by simp [part47]⟩
  | cons c r ih =>
    unfold part47
    by_cases h : c = 47
    · rw [if_pos h]
      exact ⟨by rw [h]; rfl, by simp⟩
    · rw [if_neg h]
      refine ⟨?_, ?_⟩
      · show c :: r = c :: ((part47 r).1 ++ _)
        rw [← ih.1]
      · intro hm
        rcases List.mem_cons.mp hm with e | e
        · exact h e.symm
        · exact ih.2 e
/-- a group of at most 60 digits without a zero ahead -/
def Group (x : List Nat) : Prop := Canon x ∧ x.length ≤ 60
theorem group_num {x : List Nat} (h : Group x) : numD (digitsVal x) = x := canon_num h.1
/-- the texts that are numbers: t / b in lowest terms, its parts of at most 60 digits -/
def IsNum (l : List Nat) (t b : Int) : Prop := l = written t b ∧ 0 < b ∧ Nat.gcd t.natAbs b.natAbs = 1 ∧ (numD t.natAbs).length ≤ 60 ∧ (numD b.natAbs).length ≤ 60
end SpX

set_option Elab.async false
set_option linter.all false
set_option maxRecDepth 100000
set_option maxHeartbeats 2000000
/-! What the methods of texts give, as lists of code points. -/
namespace SpX
open PySem PySem.Spec NumText L2
open TL (tl)
theorem tl_slash : tl "/" = [47] := by decide +kernel
theorem tl_minus : tl "-" = [45] := by decide +kernel
theorem tl_zero : tl "0" = [48] := by decide +kernel
theorem tl_empty : tl Str.empty = [] := rfl
theorem tl_len (x : Str) : x.length = (tl x).length := TL.len_tl x
theorem str_eq {x y : Str} (h : tl x = tl y) : x = y := TL.ext_tl h
theorem dec_str (x y : Str) : decide (x = y) = decide (tl x = tl y) := by
  by_cases h : x = y
  · rw [h]
    simp
  · have : tl x ≠ tl y := fun e => h (str_eq e)
    rw [decide_eq_false h, decide_eq_false this]
/-! ### a minus ahead -/
theorem subAt0 (x y : Str) : PySem.Builtin.Str.subAt x y 0 = ((tl x).take (tl y).length == tl y) := by
  rw [StrLaws.subAt_eq, List.drop_zero, tl_len y]
def neg? (l : List Nat) : Bool := l.head? == some 45
def body (l : List Nat) : List Nat := if neg? l = true then l.tail else l
theorem sub_minus (x : Str) : PySem.Builtin.Str.subAt x "-" 0 = neg? (tl x) := by
  rw [subAt0, tl_minus]
  unfold neg?
  cases tl x with
  | nil => rfl
  | cons c r =>
    show ((c :: r).take 1 == [45]) = _
    rw [List.take_succ_cons, List.take_zero, List.head?_cons]
    by_cases h : c = 45
    · rw [h] <;> rfl
    · have e1 : ([c] == [45]) = false := by simp [h]
      have e2 : (some c == some 45) = false := by simp [h]
      rw [e1, e2]
theorem startswith_minus (x : Str) : Txt.startswith x "-" = neg? (tl x) := by
  unfold Txt.startswith
  rw [sub_minus]
  cases h : neg? (tl x) with
  | false => rw [Bool.and_false]
  | true =>
    rw [Bool.and_true]
    have hl : ("-" : Str).length = 1 := by decide +kernel
    rw [hl, tl_len x]
    unfold neg? at h
    cases e : tl x with
    | nil => rw [e] at h; cases h
    | cons c r => simp
theorem removeprefix_minus (x : Str) : tl (Txt.removeprefix x "-") = body (tl x) := by
  unfold Txt.removeprefix body
  rw [sub_minus]
  cases h : neg? (tl x) with
  | false => rfl
  | true =>
    have hl : ("-" : Str).length = 1 := by decide +kernel
    rw [if_pos rfl, if_pos rfl]
    have e : tl (PySem.Builtin.Str.strSub x 1 x.length) = (tl x).tail := by
      rw [TL.tl_strSub_end, List.drop_one]
    show tl (if (x.length - ("-" : Str).length == x.length) = true then x else PySem.Builtin.Str.strSub x ("-" : Str).length x.length) = _
    rw [hl]
    have : (x.length - 1 == x.length) = false := by
      have : 0 < x.length := by
        rw [tl_len x]
        cases e' : tl x with
        | nil => rw [e'] at h; cases h
        | cons c r => simp
      simp
      omega
    rw [this, if_neg (by decide)]
    exact e
/-! ### parts at the first slash -/
theorem par47 (l acc : List Nat) : TL.par [47] acc l = (match part47 l with | (a, some b) => some (acc ++ a, b) | (_, none) => none) := by
  induction l generalizing acc with
  | nil => rfl
  | cons c r ih =>
    by_cases h : c = 47
    · subst h
      have hp : TL.pre [47] (47 :: r) = true := TL.pre_self [47] r
      rw [TL.par_hit hp]
      unfold part47
      simp
    · rw [TL.par_miss (TL.pre_of_head [] r h), ih]
      have e : part47 (c :: r) = (c :: (part47 r).1, (part47 r).2) := by
        conv => lhs; unfold part47
        rw [if_neg h]
      rw [e]
      cases h2 : part47 r with
      | mk a o =>
        cases o with
        | none => rfl
        | some b => simp
theorem spl47 (l acc : List Nat) : TL.spl [47] 0 acc l = (match part47 l with | (a, some b) => (acc ++ a) :: TL.spl [47] 0 [] b | (a, none) => [acc ++ a]) := by
  induction l generalizing acc with
  | nil =>
    rw [TL.spl_nil]
    show [acc] = [acc ++ []]
    rw [List.append_nil]
  | cons c r ih =>
    by_cases h : c = 47
    · subst h
      have hp : TL.pre [47] (47 :: r) = true := TL.pre_self [47] r
      rw [TL.spl_hit hp]
      unfold part47
      simp
    · rw [TL.spl_miss (TL.pre_of_head [] r h), ih]
      have e : part47 (c :: r) = (c :: (part47 r).1, (part47 r).2) := by
        conv => lhs; unfold part47
        rw [if_neg h]
      rw [e]
      cases h2 : part47 r with
      | mk a o =>
        cases o with
        | none => simp
        | some b => simp
theorem partition_slash (x : Str) : (match part47 (tl x) with
    | (a, some b) => tl (Txt.partition x "/").1 = a ∧ (Txt.partition x "/").2.1 = "/" ∧ tl (Txt.partition x "/").2.2 = b
    | (_, none) => Txt.partition x "/" = (x, Str.empty, Str.empty)) := by
  have hp := TL.partition_par x "/" (by rw [tl_slash]; simp)
  rw [tl_slash, par47] at hp
  cases h : part47 (tl x) with
  | mk a o =>
    rw [h] at hp
    cases o with
    | none => exact hp
    | some b =>
      dsimp only at hp ⊢
      rw [hp]
      exact ⟨by simp [TL.tl], rfl, by simp [TL.tl]⟩
theorem split_slash (x : Str) : (Txt.split x "/").map tl = TL.spl [47] 0 [] (tl x) := by
  have h := TL.split_spl x "/" (by rw [tl_slash]; simp) (TL.kind_ok (by decide +kernel))
  rw [tl_slash] at h
  exact h
/-! ### digits -/
theorem dig128 : ∀ c : Nat, c < 128 → PySem.Unicode.isDigit c = decide (48 ≤ c ∧ c ≤ 57) := by
  have : ∀ c : Fin 128, PySem.Unicode.isDigit c.val = decide (48 ≤ c.val ∧ c.val ≤ 57) := by decide +kernel
  intro c h
  exact this ⟨c, h⟩
theorem all_tl (x : Str) (p : Nat → Bool) : x.cps.all p = (tl x).all p := by simp [TL.tl]
def digs (l : List Nat) : Bool := !l.isEmpty && l.all fun c => decide (48 ≤ c ∧ c ≤ 57)
theorem digs_iff {l : List Nat} : digs l = true ↔ l ≠ [] ∧ AllDigits l := by
  unfold digs
  rw [Bool.and_eq_true, List.all_eq_true]
  constructor
  · rintro ⟨h1, h2⟩
    exact ⟨by simpa using h1, fun c hc => by simpa using h2 c hc⟩
  · rintro ⟨h1, h2⟩
    exact ⟨by simpa using h1, fun c hc => by simpa using h2 c hc⟩
theorem isdigit_ascii (x : Str) : (Txt.isascii x = true → Txt.isdigit x = digs (tl x)) ∧ (Txt.isascii x = false → digs (tl x) = false) := by
  unfold Txt.isascii Txt.isdigit digs
  rw [all_tl, all_tl, tl_len x]
  constructor
  · intro h
    have h' := List.all_eq_true.mp h
    have e : (tl x).all PySem.Unicode.isDigit = (tl x).all fun c => decide (48 ≤ c ∧ c ≤ 57) := by
      refine Bool.eq_iff_iff.mpr ?_
      rw [List.all_eq_true, List.all_eq_true]
      refine forall_congr' fun c => ⟨fun q hc => ?_, fun q hc => ?_⟩
      · rw [← dig128 c (by simpa using h' c hc)]
        exact q hc
      · rw [dig128 c (by simpa using h' c hc)]
        exact q hc
    rw [e]
    cases tl x <;> simp
  · intro h
    rw [Bool.eq_false_iff] at h ⊢
    intro q
    rw [Bool.and_eq_true, List.all_eq_true] at q
    refine h (List.all_eq_true.mpr fun c hc => ?_)
    have := q.2 c hc
    simp at this ⊢
    omega
/-- int of digits -/
theorem int_digits {x : Str} (h : AllDigits (tl x)) (h1 : tl x ≠ []) (h2 : (tl x).length ≤ 4300) : intText? x = some ((digitsVal (tl x) : Nat) : Int) := intText_digits h h1 (by rw [tl_len x]; exact h2)
/-- the signs of an int -/
def intD (n : Int) : List Nat := (if n < 0 then [45] else []) ++ numD n.natAbs
theorem tl_int (n : Int) : tl (Str.ofString (toString n)) = intD n := by
  unfold intD
  by_cases h : n < 0
  · rw [if_pos h, PyProof.Rows.toString_neg h]
    have e : Str.ofString ("-" ++ toString (0 - n)) = "-" ++ Str.ofString (toString (0 - n)) := by
      refine str_eq ?_
      rw [TL.tl_append, TL.tl_ofString, TL.tl_ofString, TL.tl_ofString, String.toList_append, List.map_append]
    rw [e, TL.tl_append, tl_minus]
    have : (0 - n) = ((n.natAbs : Nat) : Int) := by omega
    rw [this, TL.tl_num]
  · rw [if_neg h, List.nil_append]
    have : n = ((n.natAbs : Nat) : Int) := by omega
    conv => lhs; rw [this]
    exact TL.tl_num _
theorem intD_nat (n : Nat) : intD (n : Int) = numD n := by
  unfold intD
  rw [if_neg (by omega), List.nil_append, Int.natAbs_natCast]
/-- zeros ahead -/
theorem tl_zfill {x : Str} (h : AllDigits (tl x)) (k : Nat) : tl (Txt.zfill x (k : Int)) = List.replicate (k - (tl x).length) 48 ++ tl x := by
  unfold Txt.zfill
  by_cases hk : (k : Int) ≤ x.length
  · rw [if_pos hk]
    have : k - (tl x).length = 0 := by
      rw [tl_len x] at hk
      omega
    rw [this, List.replicate_zero, List.nil_append]
  · rw [if_neg hk]
    unfold PySem.zfilled
    have hc : x.cps[0]? = (tl x)[0]? := by simp [TL.tl]
    rw [hc]
    have e : tl (PySem.Builtin.Str.padded x ((k : Int).toNat - x.length) 0 48) = List.replicate (k - (tl x).length) 48 ++ tl x := by
      unfold PySem.Builtin.Str.padded
      rw [Int.toNat_natCast, tl_len x]
      simp [TL.tl]
    cases ht : tl x with
    | nil =>
      rw [ht] at e
      exact e
    | cons c r =>
      rw [ht] at e
      have hcd := h c (by rw [ht]; exact List.mem_cons_self)
      show tl (match some c with | some 43 | some 45 => _ | _ => _) = _
      split
      · rename_i q
        cases q
        omega
      · rename_i q
        cases q
        omega
      · exact e
/-- zeros ahead taken away -/
theorem tl_lstrip0 (x : Str) : tl (Txt.lstripChars x "0") = (tl x).dropWhile (· == 48) := by
  unfold Txt.lstripChars
  rw [PyProof.Rows.stripBy_eq]
  have hg : (("0" : Str).cps.contains : Nat → Bool) = fun c => c == 48 := by
    funext c
    have : ("0" : Str).cps = #[48] := by decide +kernel
    rw [this]
    simp [Array.contains, eq_comm]
  rw [hg]
  unfold PySem.stripLo PySem.stripHi
  rw [if_pos rfl, if_neg (by decide), TL.tl_strSub_end]
  have : ∀ l : List Nat, l.drop (l.takeWhile (· == 48)).length = l.dropWhile (· == 48) := fun l => by
    induction l with
    | nil => rfl
    | cons c r ih =>
      rw [List.takeWhile_cons, List.dropWhile_cons]
      by_cases h : (c == 48) = true
      · rw [if_pos h, if_pos h, List.length_cons, List.drop_succ_cons]
        exact ih
      · rw [if_neg h, if_neg h]
        rfl
  exact this _
/-- the parts of a text -/
theorem tl_cut (x : Str) (lo hi : Option Int) : tl (cutS x lo hi) = ((tl x).drop (HT.sIx (tl x).length 0 lo)).take (HT.sIx (tl x).length (tl x).length hi - HT.sIx (tl x).length 0 lo) := by
  unfold cutS
  rw [← tl_len x]
theorem tl_cut_from (x : Str) (k : Nat) : tl (cutS x (some (k : Int)) none) = (tl x).drop k := by
  rw [tl_cut, HT.sIx_nat, HT.sIx_none]
  by_cases h : k ≤ (tl x).length
  · rw [Nat.min_eq_left h]
    exact List.take_of_length_le (by rw [List.length_drop] <;> omega)
  · rw [Nat.min_eq_right (by omega), List.drop_length, List.take_nil, List.drop_eq_nil_of_le (by omega)]
theorem tl_cut_to (x : Str) (k : Nat) : tl (cutS x none (some (k : Int))) = (tl x).take k := by
  rw [tl_cut, HT.sIx_nat, HT.sIx_none, List.drop_zero, Nat.sub_zero]
  by_cases h : k ≤ (tl x).length
  · rw [Nat.min_eq_left h]
  · rw [Nat.min_eq_right (by omega), List.take_length, List.take_of_length_le (by omega)]
/-- joined without anything between -/
theorem tl_join0 (ys : List Str) : tl (Txt.join Str.empty ys) = (ys.map tl).flatten := by
  rw [TL.join_eq, TL.tl_join]
  have : ∀ l : List (List Nat), TL.joinL [] l = l.flatten := fun l => by
    induction l with
    | nil => rfl
    | cons a r ih =>
      cases r with
      | nil => simp [TL.joinL]
      | cons b r =>
        show a ++ ([] ++ TL.joinL [] (b :: r)) = _
        rw [ih, List.nil_append, List.flatten_cons (l := a)]
  exact this _
/-- a sign's place among the digits -/
theorem find_digit (c : Nat) : Txt.find "0123456789" ⟨#[c]⟩ = if 48 ≤ c ∧ c ≤ 57 then ((c : Int) - 48) else -1 := by
  have ht : tl "0123456789" = [48, 49, 50, 51, 52, 53, 54, 55, 56, 57] := by decide +kernel
  have hat : ∀ i, StrLaws.At "0123456789" ⟨#[c]⟩ ("0123456789" : Str).length i ↔ [48, 49, 50, 51, 52, 53, 54, 55, 56, 57][i]? = some c := fun i => by
    rw [← ht]
    exact StrLaws.subAt_one "0123456789" c i
  rcases PyProof.Rows.find_whole "0123456789" ⟨#[c]⟩ with ⟨e, hn⟩ | ⟨i, e, hi, _⟩
  · rw [e, if_neg]
    rintro ⟨h1, h2⟩
    refine hn (c - 48) ((hat _).mpr ?_)
    have : ∀ d : Fin 10, [48, 49, 50, 51, 52, 53, 54, 55, 56, 57][d.val]? = some (48 + d.val) := by decide
    have := this ⟨c - 48, by omega⟩
    rw [this]
    congr 1
    show 48 + (c - 48) = c
    omega
  · have h := (hat _).mp hi
    have hlt : i < 10 := by
      have := (List.getElem?_eq_some_iff.mp h).1
      simpa using this
    have : ∀ d : Fin 10, [48, 49, 50, 51, 52, 53, 54, 55, 56, 57][d.val]? = some (48 + d.val) := by decide
    have h2 := this ⟨i, hlt⟩
    rw [show (⟨i, hlt⟩ : Fin 10).val = i from rfl, h] at h2
    have h3 := Option.some.inj h2
    rw [e, if_pos (by omega)]
    omega
end SpX

set_option Elab.async false
set_option linter.all false
set_option maxRecDepth 100000
set_option maxHeartbeats 2000000
/-! The texts that are numbers. -/
namespace SpX
open PySem PySem.Spec NumText L2
def cnt (l : List Nat) : Bool := decide (l.length ≤ 60) && digs l
def grp (l : List Nat) : Option Nat := if cnt l = true ∧ (1 < l.length → l.head? ≠ some 48) then some (digitsVal l) else none
def sgn (l : List Nat) (n : Nat) : Int := if neg? l = true then -(n : Int) else n
def numOf (l : List Nat) : Option (Int × Int) :=
  match part47 (body l) with
  | (a, none) => match grp a with
    | some n => if neg? l = true ∧ n = 0 then none else some (sgn l n, 1)
    | none => none
  | (a, some r) => match grp a, grp r with
    | some n, some m => if m < 2 ∨ Nat.gcd n m ≠ 1 then none else if neg? l = true ∧ n = 0 then none else some (sgn l n, (m : Int))
    | _, _ => none
theorem cnt_iff {l : List Nat} : cnt l = true ↔ l.length ≤ 60 ∧ l ≠ [] ∧ AllDigits l := by
  unfold cnt
  rw [Bool.and_eq_true, decide_eq_true_eq, digs_iff]
theorem cnt_lt {l : List Nat} (h : cnt l = true) : digitsVal l < 10 ^ 60 := by
  obtain ⟨h1, h2, h3⟩ := cnt_iff.mp h
  exact Nat.lt_of_lt_of_le (digitsVal_lt h3) (Nat.pow_le_pow_right (by decide) h1)
theorem grp_some {l : List Nat} {n : Nat} (h : grp l = some n) : cnt l = true ∧ Canon l ∧ n = digitsVal l ∧ numD n = l ∧ n < 10 ^ 60 := by
  unfold grp at h
  split at h
  · rename_i q
    obtain ⟨q1, q2⟩ := q
    have e := Option.some.inj h
    obtain ⟨h1, h2, h3⟩ := cnt_iff.mp q1
    have c : Canon l := ⟨h3, h2, q2⟩
    refine ⟨q1, c, e.symm, ?_, ?_⟩
    · rw [← e]
      exact canon_num c
    · rw [← e]
      exact cnt_lt q1
  · cases h
theorem grp_num {n : Nat} (h : n < 10 ^ 60) : grp (numD n) = some n := by
  unfold grp
  have c := num_canon n
  rw [if_pos ⟨cnt_iff.mpr ⟨num_len (by decide) h, c.ne, c.dig⟩, c.lead⟩, num_val]
theorem grp_cnt {l : List Nat} (h : cnt l = false) : grp l = none := by
  unfold grp
  rw [if_neg]
  rintro ⟨q, _⟩
  rw [h] at q
  cases q
theorem num_no {n c : Nat} (h : c < 48 ∨ 57 < c) : c ∉ numD n := TL.numL_free h
theorem num_head_ne {n c : Nat} (h : c < 48 ∨ 57 < c) (r : List Nat) : (numD n ++ r).head? ≠ some c := by
  have hn := num_ne n
  cases e : numD n with
  | nil => exact absurd e hn
  | cons a t =>
    have := num_dig n a (by rw [e]; exact List.mem_cons_self)
    intro q
    have := Option.some.inj q
    omega
theorem neg_written (t b : Int) : neg? (written t b) = decide (t < 0) := by
  unfold written neg?
  by_cases h : t < 0
  · rw [if_pos h, decide_eq_true h]
    rfl
  · rw [if_neg h, decide_eq_false h, List.nil_append]
    have := num_head_ne (n := t.natAbs) (c := 45) (.inl (by decide)) (if b = 1 then [] else 47 :: numD b.natAbs)
    exact beq_eq_false_iff_ne.mpr this
theorem body_written (t b : Int) : body (written t b) = numD t.natAbs ++ (if b = 1 then [] else 47 :: numD b.natAbs) := by
  unfold body
  rw [neg_written]
  unfold written
  by_cases h : t < 0
  · rw [decide_eq_true h, if_pos rfl, if_pos h]
    rfl
  · rw [decide_eq_false h, if_neg (by decide), if_neg h, List.nil_append]
theorem numOf_written {t b : Int} (hb : 0 < b) (hg : Nat.gcd t.natAbs b.natAbs = 1) (ht : t.natAbs < 10 ^ 60) (hb' : b.natAbs < 10 ^ 60) : numOf (written t b) = some (t, b) := by
  have free : 47 ∉ numD t.natAbs := num_no (.inl (by decide))
  have sg : sgn (written t b) t.natAbs = t := by
    unfold sgn
    rw [neg_written]
    by_cases h : t < 0
    · rw [decide_eq_true h, if_pos rfl]
      omega
    · rw [decide_eq_false h, if_neg (by decide)]
      omega
  have nz : ¬ (neg? (written t b) = true ∧ t.natAbs = 0) := by
    rw [neg_written]
    rintro ⟨h1, h2⟩
    have := of_decide_eq_true h1
    omega
  unfold numOf
  rw [body_written]
  by_cases h1 : b = 1
  · rw [if_pos h1, List.append_nil, part47_free free]
    dsimp only
    rw [grp_num ht]
    dsimp only
    rw [if_neg nz, sg, h1]
  · rw [if_neg h1, part47_at free]
    dsimp only
    rw [grp_num ht, grp_num hb']
    dsimp only
    rw [if_neg (by omega), if_neg nz, sg]
    congr 2
    omega
theorem body_back (l : List Nat) : l = (if neg? l = true then [45] else []) ++ body l := by
  unfold body
  cases h : neg? l with
  | false => rfl
  | true =>
    unfold neg? at h
    cases l with
    | nil => cases h
    | cons c r =>
      rw [List.head?_cons] at h
      have : c = 45 := by simpa using h
      rw [this]
      rfl
theorem sgn_neg {l : List Nat} {n : Nat} (h : ¬ (neg? l = true ∧ n = 0)) : (sgn l n < 0) = (neg? l = true) := by
  unfold sgn
  refine propext ⟨fun q => ?_, fun q => ?_⟩
  · split at q
    · assumption
    · omega
  · rw [if_pos q]
    have : n ≠ 0 := fun e => h ⟨q, e⟩
    omega
theorem sgn_abs {l : List Nat} {n : Nat} : (sgn l n).natAbs = n := by
  unfold sgn
  split <;> omega
theorem numOf_sound {l : List Nat} {t b : Int} (h : numOf l = some (t, b)) : written t b = l ∧ 0 < b ∧ Nat.gcd t.natAbs b.natAbs = 1 ∧ t.natAbs < 10 ^ 60 ∧ b.natAbs < 10 ^ 60 := by
  have hb := body_back l
  have hp := part47_back (body l)
  unfold numOf at h
  cases e : part47 (body l) with
  | mk a o =>
    rw [e] at h hp
    cases o with
    | none =>
      dsimp only at h hp
      cases g : grp a with
      | none => rw [g] at h; cases h
      | some n =>
        rw [g] at h
        dsimp only at h
        split at h
        · cases h
        · rename_i hn
          cases h
          obtain ⟨_, _, _, g4, g5⟩ := grp_some g
          refine ⟨?_, by decide, by simp, by rw [sgn_abs]; exact g5, by decide +kernel⟩
          unfold written
          rw [if_pos rfl, List.append_nil, sgn_abs, g4]
          conv => rhs; rw [hb, hp.1, List.append_nil]
          have sw : (if sgn l n < 0 then [45] else []) = (if neg? l = true then [45] else []) := by simp only [sgn_neg hn]
          rw [sw]
    | some r =>
      dsimp only at h hp
      cases g : grp a with
      | none => rw [g] at h; cases h
      | some n =>
        cases g' : grp r with
        | none => rw [g, g'] at h; cases h
        | some m =>
          rw [g, g'] at h
          dsimp only at h
          split at h
          · cases h
          · rename_i hm
            split at h
            · cases h
            · rename_i hn
              cases h
              obtain ⟨_, _, _, g4, g5⟩ := grp_some g
              obtain ⟨_, _, _, k4, k5⟩ := grp_some g'
              refine ⟨?_, by omega, ?_, by rw [sgn_abs]; exact g5, by rw [Int.natAbs_natCast]; exact k5⟩
              · unfold written
                have m1 : ¬ ((m : Int) = 1) := by omega
                have sw : (if sgn l n < 0 then [45] else []) = (if neg? l = true then [45] else []) := by simp only [sgn_neg hn]
                rw [if_neg m1, sgn_abs, g4, Int.natAbs_natCast, k4, sw]
                conv => rhs; rw [hb, hp.1]
                rw [List.append_assoc]
              · rw [sgn_abs, Int.natAbs_natCast]
                exact Classical.byContradiction fun q => hm (.inr q)
/-- the two parts that are read -/
def partA (l : List Nat) : List Nat := (part47 (body l)).1
def partB (l : List Nat) : List Nat := match (part47 (body l)).2 with | none => [49] | some y => y
theorem numOf_bad {l : List Nat} (h : cnt (partA l) = false ∨ cnt (partB l) = false ∨ digitsVal (partB l) = 0) : numOf l = none := by
  unfold partA partB at h
  unfold numOf
  cases e : part47 (body l) with
  | mk a o =>
    rw [e] at h
    cases o with
    | none =>
      dsimp only at h ⊢
      rcases h with h | h | h
      · rw [grp_cnt h]
      · exact absurd h (by decide)
      · exact absurd h (by decide)
    | some r =>
      dsimp only at h ⊢
      rcases h with h | h | h
      · rw [grp_cnt h]
      · rw [grp_cnt h]
        cases grp a <;> rfl
      · cases grp a with
        | none => rfl
        | some n =>
          cases g : grp r with
          | none => rfl
          | some m =>
            dsimp only
            obtain ⟨_, _, g3, _⟩ := grp_some g
            rw [if_pos (.inl (by omega))]
theorem numOf_parts {l : List Nat} {t b : Int} (h : numOf l = some (t, b)) : t = sgn l (digitsVal (partA l)) ∧ b = ((digitsVal (partB l) : Nat) : Int) := by
  unfold partA partB
  unfold numOf at h
  cases e : part47 (body l) with
  | mk a o =>
    rw [e] at h
    cases o with
    | none =>
      dsimp only at h ⊢
      cases g : grp a with
      | none => rw [g] at h; cases h
      | some n =>
        rw [g] at h
        dsimp only at h
        split at h
        · cases h
        · cases h
          rw [(grp_some g).2.2.1]
          exact ⟨rfl, by decide⟩
    | some r =>
      dsimp only at h ⊢
      cases g : grp a with
      | none => rw [g] at h; cases h
      | some n =>
        cases g' : grp r with
        | none => rw [g, g'] at h; cases h
        | some m =>
          rw [g, g'] at h
          dsimp only at h
          split at h
          · cases h
          · split at h
            · cases h
            · cases h
              rw [(grp_some g).2.2.1, (grp_some g').2.2.1]
              exact ⟨rfl, rfl⟩
/-- what was read, written again -/
theorem numOf_again {l : List Nat} {t b : Int} (ha : cnt (partA l) = true) (hb : cnt (partB l) = true) (h0 : digitsVal (partB l) ≠ 0) (hn : Norm t b (sgn l (digitsVal (partA l))) (digitsVal (partB l) : Nat)) :
    numOf l = (if written t b = l then some (t, b) else none) := by
  have la := cnt_lt ha
  have lb := cnt_lt hb
  have le := hn.le (by omega)
  rw [sgn_abs, Int.natAbs_natCast] at le
  by_cases h : written t b = l
  · rw [if_pos h]
    conv => lhs; rw [← h]
    exact numOf_written hn.pos hn.cop (by omega) (by omega)
  · rw [if_neg h]
    cases e : numOf l with
    | none => rfl
    | some p =>
      exfalso
      obtain ⟨x, y⟩ := p
      obtain ⟨e1, e2⟩ := numOf_parts e
      obtain ⟨s1, s2, s3, _⟩ := numOf_sound e
      refine h ?_
      rw [← e1, ← e2] at hn
      have q := hn.eq
      have c1 := hn.cop
      -- t / b and x / y, both in lowest terms
      have d1 : b.natAbs ∣ y.natAbs := by
        have : b.natAbs ∣ t.natAbs * y.natAbs := ⟨x.natAbs, by rw [← Int.natAbs_mul, q, Int.natAbs_mul, Nat.mul_comm]⟩
        exact Nat.Coprime.dvd_of_dvd_mul_left (Nat.Coprime.symm c1) this
      have d2 : y.natAbs ∣ b.natAbs := by
        have : y.natAbs ∣ x.natAbs * b.natAbs := ⟨t.natAbs, by rw [← Int.natAbs_mul, ← q, Int.natAbs_mul, Nat.mul_comm]⟩
        exact Nat.Coprime.dvd_of_dvd_mul_left (Nat.Coprime.symm s3) this
      have d3 := Nat.dvd_antisymm d1 d2
      have p := hn.pos
      have hby : b = y := by omega
      subst hby
      have : t = x := Int.eq_of_mul_eq_mul_right (by omega) q
      rw [this]
      exact s1
end SpX

set_option Elab.async false
set_option linter.all false
set_option maxRecDepth 100000
set_option maxHeartbeats 2000000
/-! Law k01: draws of numbers, and how they are written. -/
namespace SpX
open PySem PySem.Spec NumText L2
open TL (tl)
theorem for_rngV {te : TE} {j : Int} {g : TG} {tb : TS} {D : Ends} {σ : L2.St} {H : Hp} (he : ∀ Q : VK, te σ H Q = Q (.int j) H) (hj : 0 ≤ j ∧ j < 1000000) (Pv : Nat → L2.St → Hp → Prop) (h0 : Pv 0 σ H)
    (hs : ∀ (i : Nat) σ H, (i : Int) < j → Pv i σ H → g (.int i) σ H fun σ2 H2 => tb { D with nx := Pv (i + 1), ct := Pv (i + 1), bk := D.nx } σ2 H2) (hd : ∀ σ H, Pv j.toNat σ H → D.nx σ H) : tFor (iRng1 (tCons te tNil)) g tb D σ H := by
  show te σ H _
  rw [he]
  refine ⟨j, rfl, by omega, by omega, for_range (lo := 0) (n := j.toNat) Pv h0 (fun i σ H hi h => ?_) hd⟩
  have := hs i σ H (by omega) h
  rwa [Int.zero_add]
def spPower : Sp := fun vs H Q _ => ∃ many : Int, vs = [.int 10, .int many] ∧ 0 ≤ many ∧ many < 1000 ∧ Q (.int ((10 : Int) ^ many.toNat)) H
theorem pow10_bd (n : Nat) : Bd (4 * n + 1) ((10 : Int) ^ n) := by
  unfold Bd
  rw [Int.natAbs_pow]
  have h : (10 : Nat) ^ n ≤ (2 ^ 4) ^ n := Nat.pow_le_pow_left (by decide) n
  rw [← Nat.pow_mul] at h
  have h2 : 2 ^ (4 * n) < 2 ^ (4 * n + 1) := Nat.pow_lt_pow_right (by decide) (by omega)
  exact Nat.lt_of_le_of_lt h h2
def t_npower (P : Program) (K : PySem.W.Frag) (mg : Str → Option Value) (C Z D BN : Addr) (E : XK) : TS :=
    (tSeq (tAsg (tC (.int 1)) (gName 2))
    (tSeq (tFor (iRng1 (tCons (tVar 1) tNil)) (gName 3) ((tAsg (tOp (rI IntMulOk fun i j => .int (i * j)) (tVar 2) (tVar 0)) (gName 2))))
    (tRet (tVar 2))))
theorem pure_npower {P : Program} {K : PySem.W.Frag} {mg : Str → Option Value} {C Z D BN : Addr} (vs : List V) (H : Hp) (Q : VK) (E : XK) (h : spPower vs H Q E) : t_npower P K mg C Z D BN E { nx := fun _ H' => Q .non H', rt := Q } (start ["base", "many", "found", "k"] vs) H := by
  obtain ⟨many, rfl, h0, h1, k⟩ := h
  show t_npower P K mg C Z D BN E _ [some (.int 10), some (.int many), none, none] H
  unfold t_npower
  simp only [x_seq, x_if, x_test, x_B, x_op, x_un, x_varS, x_var0, x_c, x_I0, x_I, x_U, x_bl, x_ret, x_next, x_eqS, x_neS, x_m0, x_m1, x_isStr, x_SM, x_addT, x_slS, x_lenT, x_strI, x_mulS, x_startT, x_findT, x_preT, x_lstT, x_ascT, x_digT, x_jn, x_js0, x_js1, x_isS, x_fmt, x_fmtS, x_divW, x_truK, x_truS, x_raiseT, x_asg, x_name, x_set0, x_setS, x_drop, x_cb, x_cons, x_nil, x_int1, x_abs1, x_max2, x_gcd, x_gsub, x_sl, x_part, x_nopart, x_int, x_call, x_lst, x_tup, x_not, x_and, x_or, x_andV, x_orV, x_notV, x_ifE, x_eqI, x_neI, x_eqB, x_neB, x_tbm, x_never, x_make, x_meth, x_isII, x_isIC, x_bool1, decide_eq_true_eq, Bool.false_eq_true, if_false, if_true, List.append_nil, List.nil_append, List.cons_append]
  refine for_rngV (j := many) (fun Q => by simp only [x_seq, x_if, x_test, x_B, x_op, x_un, x_varS, x_var0, x_c, x_I0, x_I, x_U, x_bl, x_ret, x_next, x_eqS, x_neS, x_m0, x_m1, x_isStr, x_SM, x_addT, x_slS, x_lenT, x_strI, x_mulS, x_startT, x_findT, x_preT, x_lstT, x_ascT, x_digT, x_jn, x_js0, x_js1, x_isS, x_fmt, x_fmtS, x_divW, x_truK, x_truS, x_raiseT, x_asg, x_name, x_set0, x_setS, x_drop, x_cb, x_cons, x_nil, x_int1, x_abs1, x_max2, x_gcd, x_gsub, x_sl, x_part, x_nopart, x_int, x_call, x_lst, x_tup, x_not, x_and, x_or, x_andV, x_orV, x_notV, x_ifE, x_eqI, x_neI, x_eqB, x_neB, x_tbm, x_never, x_make, x_meth, x_isII, x_isIC, x_bool1, decide_eq_true_eq, Bool.false_eq_true, if_false, if_true, List.append_nil, List.nil_append, List.cons_append]) (by omega) (fun i σ H' => H' = H ∧ ∃ w : Option V, σ = [some (.int 10), some (.int many), some (.int ((10 : Int) ^ i)), w]) ⟨rfl, _, rfl⟩ ?_ ?_
  · rintro i σ H' hi ⟨rfl, w, rfl⟩
    simp only [x_seq, x_if, x_test, x_B, x_op, x_un, x_varS, x_var0, x_c, x_I0, x_I, x_U, x_bl, x_ret, x_next, x_eqS, x_neS, x_m0, x_m1, x_isStr, x_SM, x_addT, x_slS, x_lenT, x_strI, x_mulS, x_startT, x_findT, x_preT, x_lstT, x_ascT, x_digT, x_jn, x_js0, x_js1, x_isS, x_fmt, x_fmtS, x_divW, x_truK, x_truS, x_raiseT, x_asg, x_name, x_set0, x_setS, x_drop, x_cb, x_cons, x_nil, x_int1, x_abs1, x_max2, x_gcd, x_gsub, x_sl, x_part, x_nopart, x_int, x_call, x_lst, x_tup, x_not, x_and, x_or, x_andV, x_orV, x_notV, x_ifE, x_eqI, x_neI, x_eqB, x_neB, x_tbm, x_never, x_make, x_meth, x_isII, x_isIC, x_bool1, decide_eq_true_eq, Bool.false_eq_true, if_false, if_true, List.append_nil, List.nil_append, List.cons_append]
    refine ⟨(pow10_bd i).ok (n := 31) (.lit _ (by decide) (by decide) (by decide)) (by omega) (by decide) (by omega), trivial, some (.int i), ?_⟩
    rw [Int.pow_succ]
  · rintro σ H' ⟨rfl, w, rfl⟩
    simp only [x_seq, x_if, x_test, x_B, x_op, x_un, x_varS, x_var0, x_c, x_I0, x_I, x_U, x_bl, x_ret, x_next, x_eqS, x_neS, x_m0, x_m1, x_isStr, x_SM, x_addT, x_slS, x_lenT, x_strI, x_mulS, x_startT, x_findT, x_preT, x_lstT, x_ascT, x_digT, x_jn, x_js0, x_js1, x_isS, x_fmt, x_fmtS, x_divW, x_truK, x_truS, x_raiseT, x_asg, x_name, x_set0, x_setS, x_drop, x_cb, x_cons, x_nil, x_int1, x_abs1, x_max2, x_gcd, x_gsub, x_sl, x_part, x_nopart, x_int, x_call, x_lst, x_tup, x_not, x_and, x_or, x_andV, x_orV, x_notV, x_ifE, x_eqI, x_neI, x_eqB, x_neB, x_tbm, x_never, x_make, x_meth, x_isII, x_isIC, x_bool1, decide_eq_true_eq, Bool.false_eq_true, if_false, if_true, List.append_nil, List.nil_append, List.cons_append]
    exact k
def spSize60 : Sp := fun vs H Q _ => ∃ P : Addr, vs = [.ref P] ∧ PoolAt H P ∧ ∀ (r : Int) (H' : Hp), PoolAt H' P → Keep P H H' → 0 ≤ r → r.natAbs < 10 ^ 60 → Q (.int r) H'
theorem power_of {many : Int} {H : Hp} {Q : VK} {E : XK} (h0 : 0 ≤ many) (h1 : many < 1000) (k : Q (.int ((10 : Int) ^ many.toNat)) H) : spPower [.int 10, .int many] H Q E := ⟨many, rfl, h0, h1, k⟩
theorem lt60 {r : Int} (h0 : 0 ≤ r) (h : r < ((10 ^ 60 : Nat) : Int)) : r.natAbs < 10 ^ 60 := by
  generalize 10 ^ 60 = L at *
  omega
theorem small60 {r : Int} (h0 : 0 ≤ r) (h : r < 1000000) : r.natAbs < 10 ^ 60 := by
  have : (1000000 : Nat) ≤ 10 ^ 60 := by decide +kernel
  generalize 10 ^ 60 = L at *
  omega
theorem nine60 {d : Int} {n : Nat} (h0 : 0 ≤ d) (h : d < 10) (hn : n < 60) : (d * (10 : Int) ^ n).natAbs < 10 ^ 60 := by
  have e : (10 : Int) ^ n = ((10 ^ n : Nat) : Int) := by simp
  have h2 : 10 ^ n ≤ 10 ^ 59 := Nat.pow_le_pow_right (by decide) (by omega)
  have h3 : 10 * 10 ^ 59 = 10 ^ 60 := by decide +kernel
  have hp : 0 < 10 ^ n := Nat.pow_pos (by decide)
  rw [e, Int.natAbs_mul, Int.natAbs_natCast]
  have h4 : d.natAbs * 10 ^ n ≤ 9 * 10 ^ 59 := Nat.mul_le_mul (by omega) h2
  have h5 : 0 < 10 ^ 59 := Nat.pow_pos (by decide)
  generalize 10 ^ 60 = L at *
  generalize 10 ^ 59 = M at *
  omega
def t_nsize (P : Program) (K : PySem.W.Frag) (mg : Str → Option Value) (C Z D BN : Addr) (E : XK) : TS :=
    (tSeq (tAsg (tCall spTakeB [] E0 (tCons (tVar 0) (tCons (tC (.int 5)) tNil))) (gName 1))
    (tSeq (tIfS (tTest (tOp rEq (tVar 1) (tC (.int 0)))) (tRet (tCall spTakeB [] E0 (tCons (tVar 0) (tCons (tC (.int 10)) tNil)))) tNext)
    (tSeq (tIfS (tTest (tOp rEq (tVar 1) (tC (.int 1)))) (tRet (tCall spTakeB [] E0 (tCons (tVar 0) (tCons (tC (.int 1000)) tNil)))) tNext)
    (tSeq (tIfS (tTest (tOp rEq (tVar 1) (tC (.int 2)))) (tRet (tCall spTakeB [] E0 (tCons (tVar 0) (tCons (tOp (rI CPow fun i j => .int (i ^ j.toNat)) (tC (.int 10)) (tC (.int 60))) tNil)))) tNext)
    (tSeq (tIfS (tTest (tOp rEq (tVar 1) (tC (.int 3)))) (tRet (tOp (rI IntMulOk fun i j => .int (i * j)) (tOp (rI0 fun i j => .int (i + j)) (tC (.int 1)) (tCall spTakeB [] E0 (tCons (tVar 0) (tCons (tC (.int 9)) tNil)))) (tCall spPower [] E0 (tCons (tC (.int 10)) (tCons (tCall spTakeB [] E0 (tCons (tVar 0) (tCons (tC (.int 60)) tNil))) tNil))))) tNext)
    (tSeq (tAsg (tC (.int 0)) (gName 2))
    (tSeq (tFor (iRng1 (tCons (tC (.int 7)) tNil)) (gName 3) ((tAsg (tOp (rI0 fun i j => .int (i + j)) (tOp (rI IntMulOk fun i j => .int (i * j)) (tVar 2) (tOp (rI CPow fun i j => .int (i ^ j.toNat)) (tC (.int 10)) (tC (.int 9)))) (tCall spTakeB [] E0 (tCons (tVar 0) (tCons (tOp (rI CPow fun i j => .int (i ^ j.toNat)) (tC (.int 10)) (tC (.int 9))) tNil)))) (gName 2))))
    (tRet (tOp (rI (fun _ j => 0 < j) fun i j => .int (i % j)) (tCB rInt1 (tCons (tVar 2) tNil)) (tOp (rI CPow fun i j => .int (i ^ j.toNat)) (tC (.int 10)) (tC (.int 60))))))))))))
theorem pure_nsize {P0 : Program} {K : PySem.W.Frag} {mg : Str → Option Value} {C Z D BN : Addr} (vs : List V) (H : Hp) (Q : VK) (E : XK) (h : spSize60 vs H Q E) : t_nsize P0 K mg C Z D BN E { nx := fun _ H' => Q .non H', rt := Q } (start ["pool", "kind", "number", "k"] vs) H := by
  obtain ⟨P, rfl, hp, k⟩ := h
  show t_nsize P0 K mg C Z D BN E _ [some (.ref P), none, none, none] H
  unfold t_nsize
  simp only [x_seq, x_if, x_test, x_B, x_op, x_un, x_varS, x_var0, x_c, x_I0, x_I, x_U, x_bl, x_ret, x_next, x_eqS, x_neS, x_m0, x_m1, x_isStr, x_SM, x_addT, x_slS, x_lenT, x_strI, x_mulS, x_startT, x_findT, x_preT, x_lstT, x_ascT, x_digT, x_jn, x_js0, x_js1, x_isS, x_fmt, x_fmtS, x_divW, x_truK, x_truS, x_raiseT, x_asg, x_name, x_set0, x_setS, x_drop, x_cb, x_cons, x_nil, x_int1, x_abs1, x_max2, x_gcd, x_gsub, x_sl, x_part, x_nopart, x_int, x_call, x_lst, x_tup, x_not, x_and, x_or, x_andV, x_orV, x_notV, x_ifE, x_eqI, x_neI, x_eqB, x_neB, x_tbm, x_never, x_make, x_meth, x_isII, x_isIC, x_bool1, decide_eq_true_eq, Bool.false_eq_true, if_false, if_true, List.append_nil, List.nil_append, List.cons_append]
  refine take_of (n := 31) hp (by decide) (.lit _ (by decide) (by decide) (by decide)) (by decide) fun kind H1 hp1 k1 _ _ => ?_
  simp only [x_seq, x_if, x_test, x_B, x_op, x_un, x_varS, x_var0, x_c, x_I0, x_I, x_U, x_bl, x_ret, x_next, x_eqS, x_neS, x_m0, x_m1, x_isStr, x_SM, x_addT, x_slS, x_lenT, x_strI, x_mulS, x_startT, x_findT, x_preT, x_lstT, x_ascT, x_digT, x_jn, x_js0, x_js1, x_isS, x_fmt, x_fmtS, x_divW, x_truK, x_truS, x_raiseT, x_asg, x_name, x_set0, x_setS, x_drop, x_cb, x_cons, x_nil, x_int1, x_abs1, x_max2, x_gcd, x_gsub, x_sl, x_part, x_nopart, x_int, x_call, x_lst, x_tup, x_not, x_and, x_or, x_andV, x_orV, x_notV, x_ifE, x_eqI, x_neI, x_eqB, x_neB, x_tbm, x_never, x_make, x_meth, x_isII, x_isIC, x_bool1, decide_eq_true_eq, Bool.false_eq_true, if_false, if_true, List.append_nil, List.nil_append, List.cons_append, p60, p9]
  refine ite2 (fun _ => ?_) fun _ => ?_
  · exact take_of (n := 31) hp1 (by decide) (.lit _ (by decide) (by decide) (by decide)) (by decide) fun r H2 hp2 k2 r0 r1 => k r H2 hp2 (k1.trans k2) r0 (small60 r0 (by omega))
  refine ite2 (fun _ => ?_) fun _ => ?_
  · exact take_of (n := 31) hp1 (by decide) (.lit _ (by decide) (by decide) (by decide)) (by decide) fun r H2 hp2 k2 r0 r1 => k r H2 hp2 (k1.trans k2) r0 (small60 r0 (by omega))
  refine ite2 (fun _ => ?_) fun _ => ?_
  · exact ⟨pow_ok (by decide) (by decide) (by decide), take_of hp1 (by decide +kernel) b60 (by decide) fun r H2 hp2 k2 r0 r1 => k r H2 hp2 (k1.trans k2) r0 (lt60 r0 r1)⟩
  refine ite2 (fun _ => ?_) fun _ => ?_
  · refine take_of (n := 31) hp1 (by decide) (.lit _ (by decide) (by decide) (by decide)) (by decide) fun d H2 hp2 k2 d0 d1 => ?_
    simp only [x_seq, x_if, x_test, x_B, x_op, x_un, x_varS, x_var0, x_c, x_I0, x_I, x_U, x_bl, x_ret, x_next, x_eqS, x_neS, x_m0, x_m1, x_isStr, x_SM, x_addT, x_slS, x_lenT, x_strI, x_mulS, x_startT, x_findT, x_preT, x_lstT, x_ascT, x_digT, x_jn, x_js0, x_js1, x_isS, x_fmt, x_fmtS, x_divW, x_truK, x_truS, x_raiseT, x_asg, x_name, x_set0, x_setS, x_drop, x_cb, x_cons, x_nil, x_int1, x_abs1, x_max2, x_gcd, x_gsub, x_sl, x_part, x_nopart, x_int, x_call, x_lst, x_tup, x_not, x_and, x_or, x_andV, x_orV, x_notV, x_ifE, x_eqI, x_neI, x_eqB, x_neB, x_tbm, x_never, x_make, x_meth, x_isII, x_isIC, x_bool1, decide_eq_true_eq, Bool.false_eq_true, if_false, if_true, List.append_nil, List.nil_append, List.cons_append]
    refine take_of (n := 31) hp2 (by decide) (.lit _ (by decide) (by decide) (by decide)) (by decide) fun r H3 hp3 k3 r0 r1 => ?_
    refine power_of r0 (by omega) ?_
    try simp only [x_seq, x_if, x_test, x_B, x_op, x_un, x_varS, x_var0, x_c, x_I0, x_I, x_U, x_bl, x_ret, x_next, x_eqS, x_neS, x_m0, x_m1, x_isStr, x_SM, x_addT, x_slS, x_lenT, x_strI, x_mulS, x_startT, x_findT, x_preT, x_lstT, x_ascT, x_digT, x_jn, x_js0, x_js1, x_isS, x_fmt, x_fmtS, x_divW, x_truK, x_truS, x_raiseT, x_asg, x_name, x_set0, x_setS, x_drop, x_cb, x_cons, x_nil, x_int1, x_abs1, x_max2, x_gcd, x_gsub, x_sl, x_part, x_nopart, x_int, x_call, x_lst, x_tup, x_not, x_and, x_or, x_andV, x_orV, x_notV, x_ifE, x_eqI, x_neI, x_eqB, x_neB, x_tbm, x_never, x_make, x_meth, x_isII, x_isIC, x_bool1, decide_eq_true_eq, Bool.false_eq_true, if_false, if_true, List.append_nil, List.nil_append, List.cons_append]
    refine ⟨Bd.ok (m := 31) (.lit _ (by omega) (by omega) (by decide)) (pow10_bd _) (by decide) (by omega) (by omega), ?_⟩
    exact k _ H3 hp3 ((k1.trans k2).trans k3) (Int.mul_nonneg (by omega) (Int.pow_nonneg (by decide))) (nine60 (by omega) (by omega) (by omega))
  · refine for_rngC (by decide) (fun i σ H' => PoolAt H' P ∧ Keep P H H' ∧ ∃ (kd kk : Option V) (z : Int), σ = [some (.ref P), kd, some (.int z), kk] ∧ 0 ≤ z) ⟨hp1, k1, _, _, 0, rfl, by decide⟩ ?_ ?_
    · rintro i σ H' hi ⟨hp2, k2, kd, kk, z, rfl, hz⟩
      simp only [x_seq, x_if, x_test, x_B, x_op, x_un, x_varS, x_var0, x_c, x_I0, x_I, x_U, x_bl, x_ret, x_next, x_eqS, x_neS, x_m0, x_m1, x_isStr, x_SM, x_addT, x_slS, x_lenT, x_strI, x_mulS, x_startT, x_findT, x_preT, x_lstT, x_ascT, x_digT, x_jn, x_js0, x_js1, x_isS, x_fmt, x_fmtS, x_divW, x_truK, x_truS, x_raiseT, x_asg, x_name, x_set0, x_setS, x_drop, x_cb, x_cons, x_nil, x_int1, x_abs1, x_max2, x_gcd, x_gsub, x_sl, x_part, x_nopart, x_int, x_call, x_lst, x_tup, x_not, x_and, x_or, x_andV, x_orV, x_notV, x_ifE, x_eqI, x_neI, x_eqB, x_neB, x_tbm, x_never, x_make, x_meth, x_isII, x_isIC, x_bool1, decide_eq_true_eq, Bool.false_eq_true, if_false, if_true, List.append_nil, List.nil_append, List.cons_append, p9]
      refine ⟨pow_ok (by decide) (by decide) (by decide), mul_lit (by decide), pow_ok (by decide) (by decide) (by decide), ?_⟩
      refine take_of (n := 31) hp2 (by decide) (.lit _ (by decide) (by decide) (by decide)) (by decide) fun r H2 hp3 k3 r0 r1 => ?_
      simp only [x_seq, x_if, x_test, x_B, x_op, x_un, x_varS, x_var0, x_c, x_I0, x_I, x_U, x_bl, x_ret, x_next, x_eqS, x_neS, x_m0, x_m1, x_isStr, x_SM, x_addT, x_slS, x_lenT, x_strI, x_mulS, x_startT, x_findT, x_preT, x_lstT, x_ascT, x_digT, x_jn, x_js0, x_js1, x_isS, x_fmt, x_fmtS, x_divW, x_truK, x_truS, x_raiseT, x_asg, x_name, x_set0, x_setS, x_drop, x_cb, x_cons, x_nil, x_int1, x_abs1, x_max2, x_gcd, x_gsub, x_sl, x_part, x_nopart, x_int, x_call, x_lst, x_tup, x_not, x_and, x_or, x_andV, x_orV, x_notV, x_ifE, x_eqI, x_neI, x_eqB, x_neB, x_tbm, x_never, x_make, x_meth, x_isII, x_isIC, x_bool1, decide_eq_true_eq, Bool.false_eq_true, if_false, if_true, List.append_nil, List.nil_append, List.cons_append]
      exact ⟨hp3, k2.trans k3, kd, _, _, rfl, by omega⟩
    · rintro σ H' ⟨hp2, k2, kd, kk, z, rfl, hz⟩
      simp only [x_seq, x_if, x_test, x_B, x_op, x_un, x_varS, x_var0, x_c, x_I0, x_I, x_U, x_bl, x_ret, x_next, x_eqS, x_neS, x_m0, x_m1, x_isStr, x_SM, x_addT, x_slS, x_lenT, x_strI, x_mulS, x_startT, x_findT, x_preT, x_lstT, x_ascT, x_digT, x_jn, x_js0, x_js1, x_isS, x_fmt, x_fmtS, x_divW, x_truK, x_truS, x_raiseT, x_asg, x_name, x_set0, x_setS, x_drop, x_cb, x_cons, x_nil, x_int1, x_abs1, x_max2, x_gcd, x_gsub, x_sl, x_part, x_nopart, x_int, x_call, x_lst, x_tup, x_not, x_and, x_or, x_andV, x_orV, x_notV, x_ifE, x_eqI, x_neI, x_eqB, x_neB, x_tbm, x_never, x_make, x_meth, x_isII, x_isIC, x_bool1, decide_eq_true_eq, Bool.false_eq_true, if_false, if_true, List.append_nil, List.nil_append, List.cons_append, p60]
      exact ⟨pow_ok (by decide) (by decide) (by decide), by decide +kernel, k _ _ hp2 k2 (Int.emod_nonneg _ (by decide +kernel)) (lt60 (Int.emod_nonneg _ (by decide +kernel)) (Int.emod_lt_of_pos _ (by decide +kernel)))⟩
/-- t / b in its lowest terms, at o -/
def spLowest : Sp := fun vs H Q _ => ∃ x y : Int, vs = [.int x, .int y] ∧ 0 < y ∧ Bd 8000 x ∧ Bd 8000 y ∧ ∀ (o : Addr) (H' : Hp) (t b : Int), TupAt H' o t b → Norm t b x y → Same H H' → Q (.ref o) H'
def t_nlowest (P : Program) (K : PySem.W.Frag) (mg : Str → Option Value) (C Z D BN : Addr) (E : XK) : TS :=
    (tSeq (tAsg (tCall spCommon [] E0 (tCons (tVar 0) (tCons (tVar 1) tNil))) (gName 2))
    (tRet (tTup (tCons (tOp (rI CDivF fun i j => .int (i.fdiv j)) (tVar 0) (tVar 2)) (tCons (tOp (rI CDivF fun i j => .int (i.fdiv j)) (tVar 1) (tVar 2)) tNil)))))
theorem pure_nlowest {P0 : Program} {K : PySem.W.Frag} {mg : Str → Option Value} {C Z D BN : Addr} (vs : List V) (H : Hp) (Q : VK) (E : XK) (h : spLowest vs H Q E) : t_nlowest P0 K mg C Z D BN E { nx := fun _ H' => Q .non H', rt := Q } (start ["above", "below", "common"] vs) H := by
  obtain ⟨x, y, rfl, hy, bx, by', k⟩ := h
  show t_nlowest P0 K mg C Z D BN E _ [some (.int x), some (.int y), none] H
  unfold t_nlowest
  simp only [x_seq, x_if, x_test, x_B, x_op, x_un, x_varS, x_var0, x_c, x_I0, x_I, x_U, x_bl, x_ret, x_next, x_eqS, x_neS, x_m0, x_m1, x_isStr, x_SM, x_addT, x_slS, x_lenT, x_strI, x_mulS, x_startT, x_findT, x_preT, x_lstT, x_ascT, x_digT, x_jn, x_js0, x_js1, x_isS, x_fmt, x_fmtS, x_divW, x_truK, x_truS, x_raiseT, x_asg, x_name, x_set0, x_setS, x_drop, x_cb, x_cons, x_nil, x_int1, x_abs1, x_max2, x_gcd, x_gsub, x_sl, x_part, x_nopart, x_int, x_call, x_lst, x_tup, x_not, x_and, x_or, x_andV, x_orV, x_notV, x_ifE, x_eqI, x_neI, x_eqB, x_neB, x_tbm, x_never, x_make, x_meth, x_isII, x_isIC, x_bool1, decide_eq_true_eq, Bool.false_eq_true, if_false, if_true, List.append_nil, List.nil_append, List.cons_append]
  refine ⟨x, y, rfl, by', ?_⟩
  simp only [x_seq, x_if, x_test, x_B, x_op, x_un, x_varS, x_var0, x_c, x_I0, x_I, x_U, x_bl, x_ret, x_next, x_eqS, x_neS, x_m0, x_m1, x_isStr, x_SM, x_addT, x_slS, x_lenT, x_strI, x_mulS, x_startT, x_findT, x_preT, x_lstT, x_ascT, x_digT, x_jn, x_js0, x_js1, x_isS, x_fmt, x_fmtS, x_divW, x_truK, x_truS, x_raiseT, x_asg, x_name, x_set0, x_setS, x_drop, x_cb, x_cons, x_nil, x_int1, x_abs1, x_max2, x_gcd, x_gsub, x_sl, x_part, x_nopart, x_int, x_call, x_lst, x_tup, x_not, x_and, x_or, x_andV, x_orV, x_notV, x_ifE, x_eqI, x_neI, x_eqB, x_neB, x_tbm, x_never, x_make, x_meth, x_isII, x_isIC, x_bool1, decide_eq_true_eq, Bool.false_eq_true, if_false, if_true, List.append_nil, List.nil_append, List.cons_append]
  have hg : ((Nat.gcd x.natAbs y.natAbs : Nat) : Int) = (if y < 0 then -((Nat.gcd x.natAbs y.natAbs : Nat) : Int) else ((Nat.gcd x.natAbs y.natAbs : Nat) : Int)) := by rw [if_neg (by omega)]
  obtain ⟨g0, ga, hn⟩ := norm_mk (x := x) (y := y) (by omega) hg
  have gd : CDivF x ((Nat.gcd x.natAbs y.natAbs : Nat) : Int) := any_div g0 (Bd.of by' (by rw [ga]; exact Nat.le_of_dvd (by omega) (Nat.gcd_dvd_right _ _)))
  exact ⟨gd, gd, by show 2 ≤ sizeLine; decide, fun p hp => k p _ _ _ upd_same hn (Same.new hp)⟩
/-- a number: its parts below 10 ^ 60, in lowest terms -/
structure Num60 (x y : Int) : Prop where
  t : x.natAbs < 10 ^ 60
  b : y.natAbs < 10 ^ 60
  pos : 0 < y
  cop : Nat.gcd x.natAbs y.natAbs = 1
theorem bd60 {a : Int} (h : a.natAbs < 10 ^ 60) : Bd 200 a := Nat.lt_of_lt_of_le h le60
def spDrawn : Sp := fun vs H Q _ => ∃ P : Addr, vs = [.ref P] ∧ PoolAt H P ∧ ∀ (o : Addr) (H' : Hp) (t b : Int), TupAt H' o t b → Num60 t b → PoolAt H' P → Keep P H H' → Q (.ref o) H'
theorem size60_of {P : Addr} {H : Hp} {Q : VK} {E : XK} (hp : PoolAt H P) (k : ∀ (r : Int) (H' : Hp), PoolAt H' P → Keep P H H' → 0 ≤ r → r.natAbs < 10 ^ 60 → Q (.int r) H') : spSize60 [.ref P] H Q E := ⟨P, rfl, hp, k⟩
def t_ndrawn (P : Program) (K : PySem.W.Frag) (mg : Str → Option Value) (C Z D BN : Addr) (E : XK) : TS :=
    (tSeq (tAsg (tCall spSize60 [] E0 (tCons (tVar 0) tNil)) (gName 1))
    (tSeq (tAsg (tC (.int 1)) (gName 2))
    (tSeq (tIfS (tTest (tOp rEq (tCall spTakeB [] E0 (tCons (tVar 0) (tCons (tC (.int 2)) tNil))) (tC (.int 1)))) (tAsg (tCB rMax2 (tCons (tC (.int 1)) (tCons (tCall spSize60 [] E0 (tCons (tVar 0) tNil)) tNil))) (gName 2)) tNext)
    (tSeq (tIfS (tTest (tOp rEq (tCall spTakeB [] E0 (tCons (tVar 0) (tCons (tC (.int 2)) tNil))) (tC (.int 1)))) (tAsg (tUn (rU fun i => .int (-i)) (tVar 1)) (gName 1)) tNext)
    (tRet (tCall spLowest [] E0 (tCons (tVar 1) (tCons (tVar 2) tNil))))))))
theorem pure_ndrawn {P0 : Program} {K : PySem.W.Frag} {mg : Str → Option Value} {C Z D BN : Addr} (vs : List V) (H : Hp) (Q : VK) (E : XK) (h : spDrawn vs H Q E) : t_ndrawn P0 K mg C Z D BN E { nx := fun _ H' => Q .non H', rt := Q } (start ["pool", "above", "below"] vs) H := by
  obtain ⟨P, rfl, hp, k⟩ := h
  show t_ndrawn P0 K mg C Z D BN E _ [some (.ref P), none, none] H
  unfold t_ndrawn
  simp only [x_seq, x_if, x_test, x_B, x_op, x_un, x_varS, x_var0, x_c, x_I0, x_I, x_U, x_bl, x_ret, x_next, x_eqS, x_neS, x_m0, x_m1, x_isStr, x_SM, x_addT, x_slS, x_lenT, x_strI, x_mulS, x_startT, x_findT, x_preT, x_lstT, x_ascT, x_digT, x_jn, x_js0, x_js1, x_isS, x_fmt, x_fmtS, x_divW, x_truK, x_truS, x_raiseT, x_asg, x_name, x_set0, x_setS, x_drop, x_cb, x_cons, x_nil, x_int1, x_abs1, x_max2, x_gcd, x_gsub, x_sl, x_part, x_nopart, x_int, x_call, x_lst, x_tup, x_not, x_and, x_or, x_andV, x_orV, x_notV, x_ifE, x_eqI, x_neI, x_eqB, x_neB, x_tbm, x_never, x_make, x_meth, x_isII, x_isIC, x_bool1, decide_eq_true_eq, Bool.false_eq_true, if_false, if_true, List.append_nil, List.nil_append, List.cons_append]
  refine size60_of hp fun x H1 hp1 k1 x0 bx => ?_
  simp only [x_seq, x_if, x_test, x_B, x_op, x_un, x_varS, x_var0, x_c, x_I0, x_I, x_U, x_bl, x_ret, x_next, x_eqS, x_neS, x_m0, x_m1, x_isStr, x_SM, x_addT, x_slS, x_lenT, x_strI, x_mulS, x_startT, x_findT, x_preT, x_lstT, x_ascT, x_digT, x_jn, x_js0, x_js1, x_isS, x_fmt, x_fmtS, x_divW, x_truK, x_truS, x_raiseT, x_asg, x_name, x_set0, x_setS, x_drop, x_cb, x_cons, x_nil, x_int1, x_abs1, x_max2, x_gcd, x_gsub, x_sl, x_part, x_nopart, x_int, x_call, x_lst, x_tup, x_not, x_and, x_or, x_andV, x_orV, x_notV, x_ifE, x_eqI, x_neI, x_eqB, x_neB, x_tbm, x_never, x_make, x_meth, x_isII, x_isIC, x_bool1, decide_eq_true_eq, Bool.false_eq_true, if_false, if_true, List.append_nil, List.nil_append, List.cons_append]
  refine take_of (n := 31) hp1 (by decide) (.lit _ (by decide) (by decide) (by decide)) (by decide) fun r H2 hp2 k2 _ _ => ?_
  simp only [x_seq, x_if, x_test, x_B, x_op, x_un, x_varS, x_var0, x_c, x_I0, x_I, x_U, x_bl, x_ret, x_next, x_eqS, x_neS, x_m0, x_m1, x_isStr, x_SM, x_addT, x_slS, x_lenT, x_strI, x_mulS, x_startT, x_findT, x_preT, x_lstT, x_ascT, x_digT, x_jn, x_js0, x_js1, x_isS, x_fmt, x_fmtS, x_divW, x_truK, x_truS, x_raiseT, x_asg, x_name, x_set0, x_setS, x_drop, x_cb, x_cons, x_nil, x_int1, x_abs1, x_max2, x_gcd, x_gsub, x_sl, x_part, x_nopart, x_int, x_call, x_lst, x_tup, x_not, x_and, x_or, x_andV, x_orV, x_notV, x_ifE, x_eqI, x_neI, x_eqB, x_neB, x_tbm, x_never, x_make, x_meth, x_isII, x_isIC, x_bool1, decide_eq_true_eq, Bool.false_eq_true, if_false, if_true, List.append_nil, List.nil_append, List.cons_append]
  have fin : ∀ (y : Int) (H3 : Hp), PoolAt H3 P → Keep P H H3 → 0 < y → y.natAbs < 10 ^ 60 → (tSeq (tIfS (tTest (tOp rEq (tCall spTakeB [] E0 (tCons (tVar 0) (tCons (tC (.int 2)) tNil))) (tC (.int 1)))) (tAsg (tUn (rU fun i => .int (-i)) (tVar 1)) (gName 1)) tNext)
    (tRet (tCall spLowest [] E0 (tCons (tVar 1) (tCons (tVar 2) tNil))))) { nx := fun _ H' => Q .non H', rt := Q } [some (.ref P), some (.int x), some (.int y)] H3 := by
    intro y H3 hp3 k3 y0 by'
    simp only [x_seq, x_if, x_test, x_B, x_op, x_un, x_varS, x_var0, x_c, x_I0, x_I, x_U, x_bl, x_ret, x_next, x_eqS, x_neS, x_m0, x_m1, x_isStr, x_SM, x_addT, x_slS, x_lenT, x_strI, x_mulS, x_startT, x_findT, x_preT, x_lstT, x_ascT, x_digT, x_jn, x_js0, x_js1, x_isS, x_fmt, x_fmtS, x_divW, x_truK, x_truS, x_raiseT, x_asg, x_name, x_set0, x_setS, x_drop, x_cb, x_cons, x_nil, x_int1, x_abs1, x_max2, x_gcd, x_gsub, x_sl, x_part, x_nopart, x_int, x_call, x_lst, x_tup, x_not, x_and, x_or, x_andV, x_orV, x_notV, x_ifE, x_eqI, x_neI, x_eqB, x_neB, x_tbm, x_never, x_make, x_meth, x_isII, x_isIC, x_bool1, decide_eq_true_eq, Bool.false_eq_true, if_false, if_true, List.append_nil, List.nil_append, List.cons_append]
    refine take_of (n := 31) hp3 (by decide) (.lit _ (by decide) (by decide) (by decide)) (by decide) fun r H4 hp4 k4 _ _ => ?_
    simp only [x_seq, x_if, x_test, x_B, x_op, x_un, x_varS, x_var0, x_c, x_I0, x_I, x_U, x_bl, x_ret, x_next, x_eqS, x_neS, x_m0, x_m1, x_isStr, x_SM, x_addT, x_slS, x_lenT, x_strI, x_mulS, x_startT, x_findT, x_preT, x_lstT, x_ascT, x_digT, x_jn, x_js0, x_js1, x_isS, x_fmt, x_fmtS, x_divW, x_truK, x_truS, x_raiseT, x_asg, x_name, x_set0, x_setS, x_drop, x_cb, x_cons, x_nil, x_int1, x_abs1, x_max2, x_gcd, x_gsub, x_sl, x_part, x_nopart, x_int, x_call, x_lst, x_tup, x_not, x_and, x_or, x_andV, x_orV, x_notV, x_ifE, x_eqI, x_neI, x_eqB, x_neB, x_tbm, x_never, x_make, x_meth, x_isII, x_isIC, x_bool1, decide_eq_true_eq, Bool.false_eq_true, if_false, if_true, List.append_nil, List.nil_append, List.cons_append]
    have out : ∀ z : Int, z.natAbs < 10 ^ 60 → spLowest [.int z, .int y] H4 Q E0 := fun z bz => by
      refine ⟨z, y, rfl, y0, (bd60 bz).mono (by decide), (bd60 by').mono (by decide), fun o H' t b ho hn s => ?_⟩
      have l := hn.le (by omega)
      exact k o H' t b ho ⟨by omega, by omega, hn.pos, hn.cop⟩ (hp4.same s) ((k3.trans k4).trans (Keep.of s))
    refine ite2 (fun _ => ?_) fun _ => ?_
    · exact out _ (by omega)
    · exact out _ bx
  refine ite2 (fun _ => ?_) fun _ => ?_
  · refine size60_of hp2 fun y H3 hp3 k3 y0 by' => ?_
    simp only [x_seq, x_if, x_test, x_B, x_op, x_un, x_varS, x_var0, x_c, x_I0, x_I, x_U, x_bl, x_ret, x_next, x_eqS, x_neS, x_m0, x_m1, x_isStr, x_SM, x_addT, x_slS, x_lenT, x_strI, x_mulS, x_startT, x_findT, x_preT, x_lstT, x_ascT, x_digT, x_jn, x_js0, x_js1, x_isS, x_fmt, x_fmtS, x_divW, x_truK, x_truS, x_raiseT, x_asg, x_name, x_set0, x_setS, x_drop, x_cb, x_cons, x_nil, x_int1, x_abs1, x_max2, x_gcd, x_gsub, x_sl, x_part, x_nopart, x_int, x_call, x_lst, x_tup, x_not, x_and, x_or, x_andV, x_orV, x_notV, x_ifE, x_eqI, x_neI, x_eqB, x_neB, x_tbm, x_never, x_make, x_meth, x_isII, x_isIC, x_bool1, decide_eq_true_eq, Bool.false_eq_true, if_false, if_true, List.append_nil, List.nil_append, List.cons_append]
    have := fin (if y > 1 then y else 1) H3 hp3 ((k1.trans k2).trans k3) max1_pos (by
      split
      · exact by'
      · decide +kernel)
    simpa only [x_seq, x_if, x_test, x_B, x_op, x_un, x_varS, x_var0, x_c, x_I0, x_I, x_U, x_bl, x_ret, x_next, x_eqS, x_neS, x_m0, x_m1, x_isStr, x_SM, x_addT, x_slS, x_lenT, x_strI, x_mulS, x_startT, x_findT, x_preT, x_lstT, x_ascT, x_digT, x_jn, x_js0, x_js1, x_isS, x_fmt, x_fmtS, x_divW, x_truK, x_truS, x_raiseT, x_asg, x_name, x_set0, x_setS, x_drop, x_cb, x_cons, x_nil, x_int1, x_abs1, x_max2, x_gcd, x_gsub, x_sl, x_part, x_nopart, x_int, x_call, x_lst, x_tup, x_not, x_and, x_or, x_andV, x_orV, x_notV, x_ifE, x_eqI, x_neI, x_eqB, x_neB, x_tbm, x_never, x_make, x_meth, x_isII, x_isIC, x_bool1, decide_eq_true_eq, Bool.false_eq_true, if_false, if_true, List.append_nil, List.nil_append, List.cons_append] using this
  · have := fin 1 H2 hp2 (k1.trans k2) (by decide) (by decide +kernel)
    simpa only [x_seq, x_if, x_test, x_B, x_op, x_un, x_varS, x_var0, x_c, x_I0, x_I, x_U, x_bl, x_ret, x_next, x_eqS, x_neS, x_m0, x_m1, x_isStr, x_SM, x_addT, x_slS, x_lenT, x_strI, x_mulS, x_startT, x_findT, x_preT, x_lstT, x_ascT, x_digT, x_jn, x_js0, x_js1, x_isS, x_fmt, x_fmtS, x_divW, x_truK, x_truS, x_raiseT, x_asg, x_name, x_set0, x_setS, x_drop, x_cb, x_cons, x_nil, x_int1, x_abs1, x_max2, x_gcd, x_gsub, x_sl, x_part, x_nopart, x_int, x_call, x_lst, x_tup, x_not, x_and, x_or, x_andV, x_orV, x_notV, x_ifE, x_eqI, x_neI, x_eqB, x_neB, x_tbm, x_never, x_make, x_meth, x_isII, x_isIC, x_bool1, decide_eq_true_eq, Bool.false_eq_true, if_false, if_true, List.append_nil, List.nil_append, List.cons_append] using this
/-- a number's text -/
def spWritten : Sp := fun vs H Q _ => ∃ (o : Addr) (t b : Int), vs = [.ref o] ∧ TupAt H o t b ∧ 0 < b ∧ Bd 900 t ∧ Bd 900 b ∧ ∀ y : Str, tl y = written t b → Q (.str y) H
theorem log1920 {a : Int} (h : Bd 900 a) : a.natAbs.log2 < 1920 := Nat.lt_of_lt_of_le (PySem.Flt.log2_lt_of (by decide) h) (by decide)
theorem num_len' {n : Nat} {k : Nat} (hk : 0 < k) (h : n < 2 ^ (3 * k)) : (numD n).length ≤ k := num_len hk (Nat.lt_of_lt_of_le h (by
  rw [Nat.pow_mul]
  exact Nat.pow_le_pow_left (by decide) k))
theorem len_str (x : Str) {n : Nat} (h : (tl x).length ≤ n) : x.length ≤ n := by
  rw [tl_len]
  exact h
theorem int_pos {b : Int} (h : 0 < b) : intD b = numD b.natAbs := by
  unfold intD
  rw [if_neg (by omega), List.nil_append]
theorem intD_len {a : Int} (h : Bd 900 a) : (intD a).length ≤ 301 := by
  have := num_len' (n := a.natAbs) (k := 300) (by decide) h
  unfold intD
  rw [List.length_append]
  split <;> simp <;> omega
theorem written_1 (t : Int) : written t 1 = intD t := by
  unfold written intD
  rw [if_pos rfl, List.append_nil]
theorem written_n {t b : Int} (h : b ≠ 1) : written t b = intD t ++ 47 :: numD b.natAbs := by
  unfold written intD
  rw [if_neg h]
def t_nwritten (P : Program) (K : PySem.W.Frag) (mg : Str → Option Value) (C Z D BN : Addr) (E : XK) : TS :=
    (tSeq (tIfS (tTest (tOp rEq (tOp rIx1 (tVar 0) (tC (.int 1))) (tC (.int 1)))) (tRet (tCB rStrI (tCons (tOp rIx1 (tVar 0) (tC (.int 0))) tNil))) tNext)
    (tRet (tOp rAddT (tOp rAddT (tCB rStrI (tCons (tOp rIx1 (tVar 0) (tC (.int 0))) tNil)) (tC (.str "/"))) (tCB rStrI (tCons (tOp rIx1 (tVar 0) (tC (.int 1))) tNil)))))
theorem pure_nwritten {P0 : Program} {K : PySem.W.Frag} {mg : Str → Option Value} {C Z D BN : Addr} (vs : List V) (H : Hp) (Q : VK) (E : XK) (h : spWritten vs H Q E) : t_nwritten P0 K mg C Z D BN E { nx := fun _ H' => Q .non H', rt := Q } (start ["pair"] vs) H := by
  obtain ⟨o, t, b, rfl, ho, hb, bt, bb, k⟩ := h
  show t_nwritten P0 K mg C Z D BN E _ [some (.ref o)] H
  unfold t_nwritten
  simp only [x_seq, x_if, x_test, x_B, x_op, x_un, x_varS, x_var0, x_c, x_I0, x_I, x_U, x_bl, x_ret, x_next, x_eqS, x_neS, x_m0, x_m1, x_isStr, x_SM, x_addT, x_slS, x_lenT, x_strI, x_mulS, x_startT, x_findT, x_preT, x_lstT, x_ascT, x_digT, x_jn, x_js0, x_js1, x_isS, x_fmt, x_fmtS, x_divW, x_truK, x_truS, x_raiseT, x_asg, x_name, x_set0, x_setS, x_drop, x_cb, x_cons, x_nil, x_int1, x_abs1, x_max2, x_gcd, x_gsub, x_sl, x_part, x_nopart, x_int, x_call, x_lst, x_tup, x_not, x_and, x_or, x_andV, x_orV, x_notV, x_ifE, x_eqI, x_neI, x_eqB, x_neB, x_tbm, x_never, x_make, x_meth, x_isII, x_isIC, x_bool1, decide_eq_true_eq, Bool.false_eq_true, if_false, if_true, List.append_nil, List.nil_append, List.cons_append, x_ixT ho at0, x_ixT ho at1]
  refine ite2 (fun h1 => ?_) fun h1 => ?_
  · subst h1
    exact ⟨log1920 bt, k _ (by rw [tl_int, written_1])⟩
  · have l1 := intD_len bt
    have l2 := num_len' (n := b.natAbs) (k := 300) (by decide) bb
    refine ⟨log1920 bt, sl5 ?_, log1920 bb, sl5 ?_, k _ ?_⟩
    · rw [tl_len, tl_len, tl_int, tl_slash]
      simp
      omega
    · rw [tl_len, tl_len, TL.tl_append, tl_int, tl_int, tl_slash, int_pos hb]
      simp
      omega
    · rw [TL.tl_append, TL.tl_append, tl_int, tl_int, tl_slash, written_n h1, int_pos hb, List.append_assoc]
      rfl
end SpX

set_option Elab.async false
set_option linter.all false
set_option maxRecDepth 100000
set_option maxHeartbeats 2000000
/-! Law k01: which texts are numbers, decided sign by sign. -/
namespace SpX
open PySem PySem.Spec NumText L2
open TL (tl)
theorem for_strV {te : TE} {z : Str} {g : TG} {tb : TS} {D : Ends} {σ : L2.St} {H : Hp} (he : ∀ Q : VK, te σ H Q = Q (.str z) H) (Pv : Nat → L2.St → Hp → Prop) (h0 : Pv 0 σ H)
    (hs : ∀ (i c : Nat) σ H, (tl z)[i]? = some c → Pv i σ H → g (.str ⟨#[c]⟩) σ H fun σ2 H2 => tb { D with nx := Pv (i + 1), ct := Pv (i + 1), bk := D.nx } σ2 H2) (hd : ∀ σ H, Pv (tl z).length σ H → D.nx σ H) : tFor (iStr te) g tb D σ H := by
  show te σ H _
  rw [he]
  refine ⟨z, rfl, ?_⟩
  have e : (tl z).length = z.cps.size := by simp [TL.tl]
  refine for_it (walk_str (z := z)) Pv h0 (fun _ _ _ _ _ => trivial) (fun i x σ H H' hi hp y => ?_) (fun σ H hp => hd σ H (by rw [e]; exact hp))
  obtain ⟨rfl, c, hc, rfl⟩ := y
  exact hs i c σ H' (by rw [← hc]; simp [TL.tl]) hp
theorem x_ixS {z : Str} {i : Int} {c : Nat} {H : Hp} {Q : VK} (hz : z.length ≤ sizeLine) (h : atI (tl z) i = some c) : rIxS (.str z) (.int i) H Q = Q (.str ⟨#[c]⟩) H := propext (Iff.intro
  (fun ⟨_, _, _, e1, e2, _, h2, q⟩ => by
    cases e1; cases e2
    rw [show atI _ i = some c from h] at h2
    cases h2
    exact q)
  (fun q => ⟨_, _, _, rfl, rfl, hz, h, q⟩))
theorem one_eq (c d : Nat) (x : Str) (hx : tl x = [d]) : decide ((⟨#[c]⟩ : Str) = x) = decide (c = d) := by
  rw [dec_str, hx]
  show decide ([c] = [d]) = _
  simp
def grpI (l : List Nat) : Int := match grp l with | some n => n | none => -1
def spGroup : Sp := fun vs H Q _ => ∃ a : Str, vs = [.str a] ∧ a.length ≤ sizeLine ∧ Q (.int (grpI (tl a))) H
theorem take_snoc {l : List Nat} {i c : Nat} (h : l[i]? = some c) : l.take (i + 1) = l.take i ++ [c] := by
  rw [List.take_add_one, h]
  rfl
theorem len_tl60 {l : List Nat} {i : Nat} (h : l.length ≤ 60) : (l.take i).length ≤ 60 := by
  rw [List.length_take]
  omega
theorem val_bd {l : List Nat} (h : AllDigits l) (hl : l.length ≤ 60) : ((digitsVal l : Nat) : Int).natAbs < 2 ^ 200 := by
  rw [Int.natAbs_natCast]
  exact Nat.lt_of_lt_of_le (digitsVal_lt h) (Nat.le_trans (Nat.pow_le_pow_right (by decide) hl) le60)
def t_ngroup (P : Program) (K : PySem.W.Frag) (mg : Str → Option Value) (C Z D BN : Addr) (E : XK) : TS :=
    (tSeq (tIfS (tOr (tTest (tOp (rI0 fun i j => .bl (decide (i < j))) (tCB rLenT (tCons (tVar 0) tNil)) (tC (.int 1)))) (tOr (tTest (tOp (rI0 fun i j => .bl (decide (j < i))) (tCB rLenT (tCons (tVar 0) tNil)) (tC (.int 60)))) (tAnd (tTest (tOp (rI0 fun i j => .bl (decide (j < i))) (tCB rLenT (tCons (tVar 0) tNil)) (tC (.int 1)))) (tTest (tOp rEq (tOp rIxS (tVar 0) (tC (.int 0))) (tC (.str "0"))))))) (tRet (tUn (rU fun i => .int (-i)) (tC (.int 1)))) tNext)
    (tSeq (tAsg (tC (.int 0)) (gName 1))
    (tSeq (tFor (iStr (tVar 0)) (gName 2) ((tSeq (tAsg (tM1 rFindT (tC (.str "0123456789")) (tVar 2)) (gName 3))
    (tSeq (tIfS (tTest (tOp (rI0 fun i j => .bl (decide (i < j))) (tVar 3) (tC (.int 0)))) (tRet (tUn (rU fun i => .int (-i)) (tC (.int 1)))) tNext)
    (tAsg (tOp (rI0 fun i j => .int (i + j)) (tOp (rI IntMulOk fun i j => .int (i * j)) (tVar 1) (tC (.int 10))) (tVar 3)) (gName 1))))))
    (tRet (tVar 1)))))
theorem pure_ngroup {P0 : Program} {K : PySem.W.Frag} {mg : Str → Option Value} {C Z D BN : Addr} (vs : List V) (H : Hp) (Q : VK) (E : XK) (h : spGroup vs H Q E) : t_ngroup P0 K mg C Z D BN E { nx := fun _ H' => Q .non H', rt := Q } (start ["text", "value", "mark", "place"] vs) H := by
  obtain ⟨a, rfl, hz, k⟩ := h
  show t_ngroup P0 K mg C Z D BN E _ [some (.str a), none, none, none] H
  unfold t_ngroup
  simp only [x_seq, x_if, x_test, x_B, x_op, x_un, x_varS, x_var0, x_c, x_I0, x_I, x_U, x_bl, x_ret, x_next, x_eqS, x_neS, x_m0, x_m1, x_isStr, x_SM, x_addT, x_slS, x_lenT, x_strI, x_mulS, x_startT, x_findT, x_preT, x_lstT, x_ascT, x_digT, x_jn, x_js0, x_js1, x_isS, x_fmt, x_fmtS, x_divW, x_truK, x_truS, x_raiseT, x_asg, x_name, x_set0, x_setS, x_drop, x_cb, x_cons, x_nil, x_int1, x_abs1, x_max2, x_gcd, x_gsub, x_sl, x_part, x_nopart, x_int, x_call, x_lst, x_tup, x_not, x_and, x_or, x_andV, x_orV, x_notV, x_ifE, x_eqI, x_neI, x_eqB, x_neB, x_tbm, x_never, x_make, x_meth, x_isII, x_isIC, x_bool1, decide_eq_true_eq, Bool.false_eq_true, if_false, if_true, List.append_nil, List.nil_append, List.cons_append]
  have none_of : cnt (tl a) = false ∨ (1 < (tl a).length ∧ (tl a).head? = some 48) → Q (.int (-1)) H := fun q => by
    have : grp (tl a) = none := by
      rcases q with q | ⟨q1, q2⟩
      · exact grp_cnt q
      · unfold grp
        rw [if_neg]
        rintro ⟨_, q⟩
        exact q q1 q2
    unfold grpI at k
    rw [this] at k
    exact k
  have hlen := tl_len a
  refine ⟨hz, ite2 (fun h1 => ?_) fun h1 => ⟨hz, ite2 (fun h2 => ?_) fun h2 => ⟨hz, ?_⟩⟩⟩
  · refine none_of (.inl ?_)
    have : tl a = [] := List.length_eq_zero_iff.mp (by omega)
    rw [this]
    rfl
  · refine none_of (.inl ?_)
    rw [Bool.eq_false_iff]
    intro q
    have := (cnt_iff.mp q).1
    omega
  · -- the rest
    have hne : tl a ≠ [] := fun e => by
      rw [e] at hlen
      simp at hlen
      omega
    have loop : ¬ (1 < (tl a).length ∧ (tl a).head? = some 48) → tFor (iStr (tVar 0)) (gName 2) (tSeq (tAsg (tM1 rFindT (tC (.str "0123456789")) (tVar 2)) (gName 3))
        (tSeq (tIfS (tTest (tOp (rI0 fun i j => .bl (decide (i < j))) (tVar 3) (tC (.int 0)))) (tRet (tUn (rU fun i => .int (-i)) (tC (.int 1)))) tNext)
        (tAsg (tOp (rI0 fun i j => .int (i + j)) (tOp (rI IntMulOk fun i j => .int (i * j)) (tVar 1) (tC (.int 10))) (tVar 3)) (gName 1))))
        { nx := (tRet (tVar 1)) { nx := fun _ H' => Q .non H', rt := Q }, rt := Q } [some (.str a), some (.int 0), none, none] H := by
      intro hh
      refine for_strV (z := a) (fun Q => by simp only [x_seq, x_if, x_test, x_B, x_op, x_un, x_varS, x_var0, x_c, x_I0, x_I, x_U, x_bl, x_ret, x_next, x_eqS, x_neS, x_m0, x_m1, x_isStr, x_SM, x_addT, x_slS, x_lenT, x_strI, x_mulS, x_startT, x_findT, x_preT, x_lstT, x_ascT, x_digT, x_jn, x_js0, x_js1, x_isS, x_fmt, x_fmtS, x_divW, x_truK, x_truS, x_raiseT, x_asg, x_name, x_set0, x_setS, x_drop, x_cb, x_cons, x_nil, x_int1, x_abs1, x_max2, x_gcd, x_gsub, x_sl, x_part, x_nopart, x_int, x_call, x_lst, x_tup, x_not, x_and, x_or, x_andV, x_orV, x_notV, x_ifE, x_eqI, x_neI, x_eqB, x_neB, x_tbm, x_never, x_make, x_meth, x_isII, x_isIC, x_bool1, decide_eq_true_eq, Bool.false_eq_true, if_false, if_true, List.append_nil, List.nil_append, List.cons_append]) (fun i σ H' => H' = H ∧ AllDigits ((tl a).take i) ∧ ∃ u v : Option V, σ = [some (.str a), some (.int ((digitsVal ((tl a).take i) : Nat) : Int)), u, v])
        ⟨rfl, by rw [List.take_zero]; exact fun c hc => absurd hc (by simp), none, none, rfl⟩ ?_ ?_
      · rintro i c σ H' hc ⟨rfl, hd, u, v, rfl⟩
        simp only [x_seq, x_if, x_test, x_B, x_op, x_un, x_varS, x_var0, x_c, x_I0, x_I, x_U, x_bl, x_ret, x_next, x_eqS, x_neS, x_m0, x_m1, x_isStr, x_SM, x_addT, x_slS, x_lenT, x_strI, x_mulS, x_startT, x_findT, x_preT, x_lstT, x_ascT, x_digT, x_jn, x_js0, x_js1, x_isS, x_fmt, x_fmtS, x_divW, x_truK, x_truS, x_raiseT, x_asg, x_name, x_set0, x_setS, x_drop, x_cb, x_cons, x_nil, x_int1, x_abs1, x_max2, x_gcd, x_gsub, x_sl, x_part, x_nopart, x_int, x_call, x_lst, x_tup, x_not, x_and, x_or, x_andV, x_orV, x_notV, x_ifE, x_eqI, x_neI, x_eqB, x_neB, x_tbm, x_never, x_make, x_meth, x_isII, x_isIC, x_bool1, decide_eq_true_eq, Bool.false_eq_true, if_false, if_true, List.append_nil, List.nil_append, List.cons_append, find_digit]
        by_cases hdig : 48 ≤ c ∧ c ≤ 57
        · rw [if_pos hdig, if_neg (by omega)]
          refine ⟨mul_lit (by decide), trivial, ?_, some (.str ⟨#[c]⟩), some (.int ((c : Int) - 48)), ?_⟩
          · rw [take_snoc hc]
            intro d hd'
            rcases List.mem_append.mp hd' with z | z
            · exact hd d z
            · rw [List.mem_singleton.mp z]
              exact hdig
          · rw [take_snoc hc, digitsVal_snoc]
            congr 3
            rw [show ((digitsVal ((tl a).take i) * 10 + (c - 48) : Nat) : Int) = (digitsVal ((tl a).take i) : Int) * 10 + ((c : Int) - 48) by omega]
        · rw [if_neg hdig, if_pos (by decide)]
          refine none_of (.inl ?_)
          rw [Bool.eq_false_iff]
          intro q
          exact hdig ((cnt_iff.mp q).2.2 c (List.mem_of_getElem? hc))
      · rintro σ H' ⟨rfl, hd, u, v, rfl⟩
        simp only [x_seq, x_if, x_test, x_B, x_op, x_un, x_varS, x_var0, x_c, x_I0, x_I, x_U, x_bl, x_ret, x_next, x_eqS, x_neS, x_m0, x_m1, x_isStr, x_SM, x_addT, x_slS, x_lenT, x_strI, x_mulS, x_startT, x_findT, x_preT, x_lstT, x_ascT, x_digT, x_jn, x_js0, x_js1, x_isS, x_fmt, x_fmtS, x_divW, x_truK, x_truS, x_raiseT, x_asg, x_name, x_set0, x_setS, x_drop, x_cb, x_cons, x_nil, x_int1, x_abs1, x_max2, x_gcd, x_gsub, x_sl, x_part, x_nopart, x_int, x_call, x_lst, x_tup, x_not, x_and, x_or, x_andV, x_orV, x_notV, x_ifE, x_eqI, x_neI, x_eqB, x_neB, x_tbm, x_never, x_make, x_meth, x_isII, x_isIC, x_bool1, decide_eq_true_eq, Bool.false_eq_true, if_false, if_true, List.append_nil, List.nil_append, List.cons_append]
        rw [List.take_length] at hd ⊢
        have hc : cnt (tl a) = true := cnt_iff.mpr ⟨by omega, hne, hd⟩
        have hg : grp (tl a) = some (digitsVal (tl a)) := by
          unfold grp
          rw [if_pos ⟨hc, fun q1 q2 => hh ⟨q1, q2⟩⟩]
        unfold grpI at k
        rw [hg] at k
        exact k
    refine ite2 (fun h3 => ?_) fun h3 => ?_
    · cases e : tl a with
      | nil => exact absurd e hne
      | cons c r =>
        have hat : atI (tl a) 0 = some c := by
          rw [e]
          show atI (c :: r) ((0 : Nat) : Int) = some c
          exact atI_nat rfl
        simp only [x_seq, x_if, x_test, x_B, x_op, x_un, x_varS, x_var0, x_c, x_I0, x_I, x_U, x_bl, x_ret, x_next, x_eqS, x_neS, x_m0, x_m1, x_isStr, x_SM, x_addT, x_slS, x_lenT, x_strI, x_mulS, x_startT, x_findT, x_preT, x_lstT, x_ascT, x_digT, x_jn, x_js0, x_js1, x_isS, x_fmt, x_fmtS, x_divW, x_truK, x_truS, x_raiseT, x_asg, x_name, x_set0, x_setS, x_drop, x_cb, x_cons, x_nil, x_int1, x_abs1, x_max2, x_gcd, x_gsub, x_sl, x_part, x_nopart, x_int, x_call, x_lst, x_tup, x_not, x_and, x_or, x_andV, x_orV, x_notV, x_ifE, x_eqI, x_neI, x_eqB, x_neB, x_tbm, x_never, x_make, x_meth, x_isII, x_isIC, x_bool1, decide_eq_true_eq, Bool.false_eq_true, if_false, if_true, List.append_nil, List.nil_append, List.cons_append, x_ixS hz hat, one_eq c 48 "0" tl_zero]
        refine ite2 (fun h4 => ?_) fun h4 => ?_
        · exact none_of (.inr ⟨by omega, by rw [e, h4]; rfl⟩)
        · exact loop fun q => h4 (by
            have := q.2
            rw [e] at this
            exact Option.some.inj this)
    · exact loop fun q => h3 (by omega)
/-- what a text says: None, or a new tuple -/
def spJudged : Sp := fun vs H Q _ => ∃ a : Str, vs = [.str a] ∧ a.length + 2 ≤ sizeLine ∧ ∀ H', Same H H' → match numOf (tl a) with
  | none => Q .non H'
  | some (t, b) => ∀ (o : Addr) (H2 : Hp), TupAt H2 o t b → Same H' H2 → Q (.ref o) H2
theorem group_of {a : Str} {H : Hp} {Q : VK} {E : XK} (hz : a.length ≤ sizeLine) (k : Q (.int (grpI (tl a))) H) : spGroup [.str a] H Q E := ⟨a, rfl, hz, k⟩
theorem cut1 (a : Str) : cutS a none (some 1) = cutS a none (some ((1 : Nat) : Int)) := rfl
theorem cut1' (a : Str) : cutS a (some 1) none = cutS a (some ((1 : Nat) : Int)) none := rfl
theorem head_minus (a : Str) : decide (cutS a none (some 1) = "-") = neg? (tl a) := by
  rw [dec_str, cut1, tl_cut_to, tl_minus]
  unfold neg?
  cases tl a with
  | nil => rfl
  | cons c r =>
    rw [List.take_succ_cons, List.take_zero, List.head?_cons]
    by_cases h : c = 45
    · rw [h] <;> rfl
    · have e2 : (some c == some 45) = false := by simp [h]
      rw [e2, decide_eq_false (by simp [h])]
theorem grpI_neg {l : List Nat} : (grpI l < 0) ↔ grp l = none := by
  unfold grpI
  cases grp l with
  | none => simp
  | some n => simp
theorem grpI_some {l : List Nat} {n : Nat} (h : grp l = some n) : grpI l = n := by
  unfold grpI
  rw [h]
theorem slash_grp {l : List Nat} (h : 47 ∈ l) : grp l = none := grp_cnt (by
  rw [Bool.eq_false_iff]
  intro q
  have := (cnt_iff.mp q).2.2 47 h
  omega)
theorem slash_len : (("/" : Str).length == 0) = false := by decide +kernel
theorem x_spl {a : Str} {H : Hp} {Q : VK} : rSplT (.str a) [.str "/"] H Q = (a.length + 2 ≤ sizeLine ∧ ∀ p, H p = none → Q (.ref p) (upd H p (.lst ((Txt.split a "/").map V.str)))) := x_splT slash_len
/-- what the cut text is: one group, two, or more -/
theorem cuts (x : Str) : match part47 (tl x) with
    | (_, none) => ∃ g, Txt.split x "/" = [g] ∧ tl g = (part47 (tl x)).1
    | (_, some r) => (∃ g h, Txt.split x "/" = [g, h] ∧ tl g = (part47 (tl x)).1 ∧ tl h = r) ∨ (∃ g h k m, Txt.split x "/" = g :: h :: k :: m ∧ tl g = (part47 (tl x)).1 ∧ 47 ∈ r) := by
  have hs := split_slash x
  rw [spl47] at hs
  cases e : part47 (tl x) with
  | mk a o =>
    rw [e] at hs
    cases o with
    | none =>
      dsimp only at hs ⊢
      rw [List.nil_append] at hs
      cases e2 : Txt.split x "/" with
      | nil => rw [e2] at hs; cases hs
      | cons g m =>
        rw [e2, List.map_cons] at hs
        injection hs with h1 h2
        exact ⟨g, by rw [List.map_eq_nil_iff.mp h2], h1⟩
    | some r =>
      dsimp only at hs ⊢
      rw [List.nil_append, spl47] at hs
      have hb := part47_back r
      cases e3 : part47 r with
      | mk y o2 =>
        rw [e3] at hs hb
        cases o2 with
        | none =>
          dsimp only at hs hb
          rw [List.nil_append] at hs
          rw [List.append_nil] at hb
          left
          cases e2 : Txt.split x "/" with
          | nil => rw [e2] at hs; cases hs
          | cons g m =>
            rw [e2, List.map_cons] at hs
            injection hs with h1 h2
            cases m with
            | nil => cases h2
            | cons h m =>
              rw [List.map_cons] at h2
              injection h2 with h3 h4
              exact ⟨g, h, by rw [List.map_eq_nil_iff.mp h4], h1, by rw [h3]; exact hb.1.symm⟩
        | some z =>
          dsimp only at hs hb
          right
          cases e2 : Txt.split x "/" with
          | nil => rw [e2] at hs; cases hs
          | cons g m =>
            rw [e2, List.map_cons] at hs
            injection hs with h1 h2
            cases m with
            | nil => cases h2
            | cons h m =>
              rw [List.map_cons] at h2
              injection h2 with h3 h4
              cases m with
              | nil =>
                rw [spl47] at h4
                cases e4 : part47 z with
                | mk u o3 =>
                  rw [e4] at h4
                  cases o3 <;> cases h4
              | cons k m =>
                exact ⟨g, h, k, m, rfl, h1, by rw [hb.1]; simp⟩
theorem body_len (l : List Nat) : (body l).length ≤ l.length := by
  unfold body
  split
  · rw [List.length_tail]
    omega
  · exact Nat.le_refl _
theorem body_ne {l : List Nat} : decide (body l = l) = !neg? l := by
  unfold body
  cases h : neg? l with
  | false => simp
  | true =>
    rw [if_pos rfl]
    have : l.tail ≠ l := fun e => by
      have e' := congrArg List.length e
      rw [List.length_tail] at e'
      unfold neg? at h
      cases l with
      | nil => cases h
      | cons c r => simp at e'
    simp [this]
theorem common_of {a b : Int} {H : Hp} {Q : VK} {E : XK} (hb : Bd 8000 b) (k : Q (.int ((Nat.gcd a.natAbs b.natAbs : Nat) : Int)) H) : spCommon [.int a, .int b] H Q E := ⟨a, b, rfl, hb, k⟩
theorem grp_bd {l : List Nat} {n : Nat} (h : grp l = some n) : Bd 200 (n : Int) := by
  have := (grp_some h).2.2.2.2
  unfold Bd
  rw [Int.natAbs_natCast]
  exact Nat.lt_of_lt_of_le this le60
def t_njudged_2 (P : Program) (K : PySem.W.Frag) (mg : Str → Option Value) (C Z D BN : Addr) (E : XK) : TS :=
    (tSeq (tAsg (tM1 rSplT (tVar 1) (tC (.str "/"))) (gName 2))
    (tSeq (tAsg (tCall spGroup [] E0 (tCons (tOp rIx1 (tVar 2) (tC (.int 0))) tNil)) (gName 3))
    (tSeq (tIfS (tOr (tTest (tOp (rI0 fun i j => .bl (decide (j < i))) (tCB rLenA (tCons (tVar 2) tNil)) (tC (.int 2)))) (tTest (tOp (rI0 fun i j => .bl (decide (i < j))) (tVar 3) (tC (.int 0))))) (tRet (tC .non)) tNext)
    (tSeq (tAsg (tC (.int 1)) (gName 4))
    (tSeq (tIfS (tTest (tOp rEq (tCB rLenA (tCons (tVar 2) tNil)) (tC (.int 2)))) (tSeq (tAsg (tCall spGroup [] E0 (tCons (tOp rIx1 (tVar 2) (tC (.int 1))) tNil)) (gName 4))
    (tIfS (tOr (tTest (tOp (rI0 fun i j => .bl (decide (i < j))) (tVar 4) (tC (.int 2)))) (tTest (tOp rNe (tCall spCommon [] E0 (tCons (tVar 3) (tCons (tVar 4) tNil))) (tC (.int 1))))) (tRet (tC .non)) tNext)) tNext)
    (tSeq (tIfS (tTest (tOp rEq (tVar 1) (tVar 0))) (tRet (tTup (tCons (tVar 3) (tCons (tVar 4) tNil)))) tNext)
    (tSeq (tIfS (tTest (tOp rEq (tVar 3) (tC (.int 0)))) (tRet (tC .non)) tNext)
    (tRet (tTup (tCons (tUn (rU fun i => .int (-i)) (tVar 3)) (tCons (tVar 4) tNil)))))))))))
def t_njudged (P : Program) (K : PySem.W.Frag) (mg : Str → Option Value) (C Z D BN : Addr) (E : XK) : TS :=
    (tSeq (tAsg (tVar 0) (gName 1))
    (tSeq (tIfS (tTest (tOp rEq (tSl rSlS (tVar 0) tNoPart (tPart (tC (.int 1)))) (tC (.str "-")))) (tAsg (tSl rSlS (tVar 0) (tPart (tC (.int 1))) tNoPart) (gName 1)) tNext)
    (tSeq (tAsg (tM1 rSplT (tVar 1) (tC (.str "/"))) (gName 2))
    (tSeq (tAsg (tCall spGroup [] E0 (tCons (tOp rIx1 (tVar 2) (tC (.int 0))) tNil)) (gName 3))
    (tSeq (tIfS (tOr (tTest (tOp (rI0 fun i j => .bl (decide (j < i))) (tCB rLenA (tCons (tVar 2) tNil)) (tC (.int 2)))) (tTest (tOp (rI0 fun i j => .bl (decide (i < j))) (tVar 3) (tC (.int 0))))) (tRet (tC .non)) tNext)
    (tSeq (tAsg (tC (.int 1)) (gName 4))
    (tSeq (tIfS (tTest (tOp rEq (tCB rLenA (tCons (tVar 2) tNil)) (tC (.int 2)))) (tSeq (tAsg (tCall spGroup [] E0 (tCons (tOp rIx1 (tVar 2) (tC (.int 1))) tNil)) (gName 4))
    (tIfS (tOr (tTest (tOp (rI0 fun i j => .bl (decide (i < j))) (tVar 4) (tC (.int 2)))) (tTest (tOp rNe (tCall spCommon [] E0 (tCons (tVar 3) (tCons (tVar 4) tNil))) (tC (.int 1))))) (tRet (tC .non)) tNext)) tNext)
    (tSeq (tIfS (tTest (tOp rEq (tVar 1) (tVar 0))) (tRet (tTup (tCons (tVar 3) (tCons (tVar 4) tNil)))) tNext)
    (tSeq (tIfS (tTest (tOp rEq (tVar 3) (tC (.int 0)))) (tRet (tC .non)) tNext)
    (tRet (tTup (tCons (tUn (rU fun i => .int (-i)) (tVar 3)) (tCons (tVar 4) tNil)))))))))))))
theorem pure_njudged {P0 : Program} {K : PySem.W.Frag} {mg : Str → Option Value} {C Z D BN : Addr} (vs : List V) (H : Hp) (Q : VK) (E : XK) (h : spJudged vs H Q E) : t_njudged P0 K mg C Z D BN E { nx := fun _ H' => Q .non H', rt := Q } (start ["text", "body", "groups", "above", "below"] vs) H := by
  obtain ⟨a, rfl, hz, k⟩ := h
  show t_njudged P0 K mg C Z D BN E _ [some (.str a), none, none, none, none] H
  have hz0 : a.length ≤ sizeLine := by omega
  have rest : ∀ B : Str, tl B = body (tl a) → t_njudged_2 P0 K mg C Z D BN E { nx := fun _ H' => Q .non H', rt := Q } [some (.str a), some (.str B), none, none, none] H := by
    intro B hB
    have hBl : B.length ≤ a.length := by
      rw [tl_len, tl_len, hB]
      exact body_len _
    have hBa : decide (B = a) = !neg? (tl a) := by rw [dec_str, hB, body_ne]
    have hcut := cuts B
    rw [hB] at hcut
    unfold t_njudged_2
    simp only [x_seq, x_if, x_test, x_B, x_op, x_un, x_varS, x_var0, x_c, x_I0, x_I, x_U, x_bl, x_ret, x_next, x_eqS, x_neS, x_m0, x_m1, x_isStr, x_SM, x_addT, x_slS, x_lenT, x_strI, x_mulS, x_startT, x_findT, x_preT, x_lstT, x_ascT, x_digT, x_jn, x_js0, x_js1, x_isS, x_fmt, x_fmtS, x_divW, x_truK, x_truS, x_raiseT, x_asg, x_name, x_set0, x_setS, x_drop, x_cb, x_cons, x_nil, x_int1, x_abs1, x_max2, x_gcd, x_gsub, x_sl, x_part, x_nopart, x_int, x_call, x_lst, x_tup, x_not, x_and, x_or, x_andV, x_orV, x_notV, x_ifE, x_eqI, x_neI, x_eqB, x_neB, x_tbm, x_never, x_make, x_meth, x_isII, x_isIC, x_bool1, decide_eq_true_eq, Bool.false_eq_true, if_false, if_true, List.append_nil, List.nil_append, List.cons_append, x_spl]
    refine ⟨by omega, fun p hp => ?_⟩
    have s1 : Same H (upd H p (.lst ((Txt.split B "/").map V.str))) := Same.new hp
    have e1 : (upd H p (.lst ((Txt.split B "/").map V.str))) p = some (.lst ((Txt.split B "/").map V.str)) := upd_same
    generalize (upd H p (.lst ((Txt.split B "/").map V.str))) = H1 at s1 e1 ⊢
    have kk := k H1 s1
    have hback := part47_back (body (tl a))
    have hBL : (body (tl a)).length ≤ a.length := by
      rw [tl_len a]
      exact body_len _
    have hBe : (B = a) ↔ neg? (tl a) = false := by
      have : (B = a) ↔ decide (B = a) = true := by simp
      rw [this, hBa]
      simp
    have fin : ∀ (n : Nat) (b : Int), (match (if neg? (tl a) = true ∧ n = 0 then none else some (sgn (tl a) n, b)) with | none => Q .non H1 | some (t, b) => ∀ (o : Addr) (H2 : Hp), TupAt H2 o t b → Same H1 H2 → Q (.ref o) H2) →
        (if B = a then 0 + 1 + 1 ≤ sizeLine ∧ ∀ (p : Addr), H1 p = none → Q (V.ref p) (upd H1 p (HO.tup [V.int ↑n, V.int b]))
          else if (n : Int) = 0 then Q V.non H1 else 0 + 1 + 1 ≤ sizeLine ∧ ∀ (p : Addr), H1 p = none → Q (V.ref p) (upd H1 p (HO.tup [V.int (-↑n), V.int b]))) := by
      intro n b kk
      cases hn : neg? (tl a) with
      | false =>
        rw [if_pos (hBe.mpr hn)]
        rw [if_neg (fun q => by rw [hn] at q; cases q.1)] at kk
        have kk : ∀ (o : Addr) (H2 : Hp), TupAt H2 o (n : Int) b → Same H1 H2 → Q (.ref o) H2 := by
          unfold sgn at kk
          rw [hn] at kk
          simpa using kk
        exact ⟨by show 2 ≤ sizeLine; decide, fun q hq => kk q _ upd_same (Same.new hq)⟩
      | true =>
        rw [if_neg (fun q => by rw [hBe.mp q] at hn; cases hn)]
        refine ite2 (fun h0 => ?_) fun h0 => ?_
        · have : n = 0 := by omega
          rw [if_pos ⟨hn, this⟩] at kk
          exact kk
        · have : ¬ n = 0 := by omega
          rw [if_neg (fun q => this q.2)] at kk
          have kk : ∀ (o : Addr) (H2 : Hp), TupAt H2 o (-(n : Int)) b → Same H1 H2 → Q (.ref o) H2 := by
            unfold sgn at kk
            rw [hn] at kk
            simpa using kk
          exact ⟨by show 2 ≤ sizeLine; decide, fun q hq => kk q _ upd_same (Same.new hq)⟩
    cases hp47 : part47 (body (tl a)) with
    | mk x o =>
      rw [hp47] at hcut hback
      cases o with
      | none =>
        obtain ⟨g, hg, hx⟩ := hcut
        dsimp only at hx hback
        rw [List.append_nil] at hback
        have lg : g.length ≤ sizeLine := by
          rw [tl_len, hx, ← hback.1]
          omega
        rw [hg] at e1
        have i0 : atI ([g].map V.str) 0 = some (.str g) := atI_0
        unfold numOf at kk
        rw [hp47] at kk
        dsimp only at kk
        simp only [x_ix e1 i0]
        refine group_of lg ?_
        rw [hx]
        simp only [x_seq, x_if, x_test, x_B, x_op, x_un, x_varS, x_var0, x_c, x_I0, x_I, x_U, x_bl, x_ret, x_next, x_eqS, x_neS, x_m0, x_m1, x_isStr, x_SM, x_addT, x_slS, x_lenT, x_strI, x_mulS, x_startT, x_findT, x_preT, x_lstT, x_ascT, x_digT, x_jn, x_js0, x_js1, x_isS, x_fmt, x_fmtS, x_divW, x_truK, x_truS, x_raiseT, x_asg, x_name, x_set0, x_setS, x_drop, x_cb, x_cons, x_nil, x_int1, x_abs1, x_max2, x_gcd, x_gsub, x_sl, x_part, x_nopart, x_int, x_call, x_lst, x_tup, x_not, x_and, x_or, x_andV, x_orV, x_notV, x_ifE, x_eqI, x_neI, x_eqB, x_neB, x_tbm, x_never, x_make, x_meth, x_isII, x_isIC, x_bool1, decide_eq_true_eq, Bool.false_eq_true, if_false, if_true, List.append_nil, List.nil_append, List.cons_append, x_lenA e1, List.length_map, List.length_cons, List.length_nil]
        rw [if_neg (by decide)]
        cases hgx : grp x with
        | none =>
          rw [hgx] at kk
          rw [if_pos (grpI_neg.mpr hgx)]
          exact kk
        | some n =>
          rw [hgx] at kk
          rw [if_neg (fun q => by rw [grpI_neg, hgx] at q; cases q), if_neg (by decide), grpI_some hgx]
          exact fin n 1 kk
      | some r =>
        dsimp only at hcut hback
        have lr : x.length + r.length ≤ sizeLine := by
          have := congrArg List.length hback.1
          rw [List.length_append, List.length_cons] at this
          omega
        unfold numOf at kk
        rw [hp47] at kk
        dsimp only at kk
        rcases hcut with ⟨g, h, hg, hx, hr⟩ | ⟨g, h, c, m, hg, hx, hr⟩
        · rw [hg] at e1
          have i0 : atI ([g, h].map V.str) 0 = some (.str g) := atI_0
          have i1 : atI ([g, h].map V.str) 1 = some (.str h) := rfl
          simp only [x_ix e1 i0]
          refine group_of (by rw [tl_len, hx]; omega) ?_
          rw [hx]
          simp only [x_seq, x_if, x_test, x_B, x_op, x_un, x_varS, x_var0, x_c, x_I0, x_I, x_U, x_bl, x_ret, x_next, x_eqS, x_neS, x_m0, x_m1, x_isStr, x_SM, x_addT, x_slS, x_lenT, x_strI, x_mulS, x_startT, x_findT, x_preT, x_lstT, x_ascT, x_digT, x_jn, x_js0, x_js1, x_isS, x_fmt, x_fmtS, x_divW, x_truK, x_truS, x_raiseT, x_asg, x_name, x_set0, x_setS, x_drop, x_cb, x_cons, x_nil, x_int1, x_abs1, x_max2, x_gcd, x_gsub, x_sl, x_part, x_nopart, x_int, x_call, x_lst, x_tup, x_not, x_and, x_or, x_andV, x_orV, x_notV, x_ifE, x_eqI, x_neI, x_eqB, x_neB, x_tbm, x_never, x_make, x_meth, x_isII, x_isIC, x_bool1, decide_eq_true_eq, Bool.false_eq_true, if_false, if_true, List.append_nil, List.nil_append, List.cons_append, x_lenA e1, List.length_map, List.length_cons, List.length_nil]
          rw [if_neg (by decide)]
          cases hgx : grp x with
          | none =>
            rw [hgx] at kk
            rw [if_pos (grpI_neg.mpr hgx)]
            exact kk
          | some n =>
            rw [hgx] at kk
            rw [if_neg (fun q => by rw [grpI_neg, hgx] at q; cases q), if_pos (by decide), grpI_some hgx]
            simp only [x_ix e1 i1]
            refine group_of (by rw [tl_len, hr]; omega) ?_
            rw [hr]
            simp only [x_seq, x_if, x_test, x_B, x_op, x_un, x_varS, x_var0, x_c, x_I0, x_I, x_U, x_bl, x_ret, x_next, x_eqS, x_neS, x_m0, x_m1, x_isStr, x_SM, x_addT, x_slS, x_lenT, x_strI, x_mulS, x_startT, x_findT, x_preT, x_lstT, x_ascT, x_digT, x_jn, x_js0, x_js1, x_isS, x_fmt, x_fmtS, x_divW, x_truK, x_truS, x_raiseT, x_asg, x_name, x_set0, x_setS, x_drop, x_cb, x_cons, x_nil, x_int1, x_abs1, x_max2, x_gcd, x_gsub, x_sl, x_part, x_nopart, x_int, x_call, x_lst, x_tup, x_not, x_and, x_or, x_andV, x_orV, x_notV, x_ifE, x_eqI, x_neI, x_eqB, x_neB, x_tbm, x_never, x_make, x_meth, x_isII, x_isIC, x_bool1, decide_eq_true_eq, Bool.false_eq_true, if_false, if_true, List.append_nil, List.nil_append, List.cons_append]
            cases hgr : grp r with
            | none =>
              rw [hgr] at kk
              have := grpI_neg.mpr hgr
              rw [if_pos (by omega)]
              exact kk
            | some q =>
              rw [hgr] at kk
              rw [grpI_some hgr]
              dsimp only at kk
              refine ite2 (fun h2 => ?_) fun h2 => ?_
              · rw [if_pos (.inl (by omega))] at kk
                exact kk
              · refine common_of ((grp_bd hgr).mono (by decide)) ?_
                simp only [x_seq, x_if, x_test, x_B, x_op, x_un, x_varS, x_var0, x_c, x_I0, x_I, x_U, x_bl, x_ret, x_next, x_eqS, x_neS, x_m0, x_m1, x_isStr, x_SM, x_addT, x_slS, x_lenT, x_strI, x_mulS, x_startT, x_findT, x_preT, x_lstT, x_ascT, x_digT, x_jn, x_js0, x_js1, x_isS, x_fmt, x_fmtS, x_divW, x_truK, x_truS, x_raiseT, x_asg, x_name, x_set0, x_setS, x_drop, x_cb, x_cons, x_nil, x_int1, x_abs1, x_max2, x_gcd, x_gsub, x_sl, x_part, x_nopart, x_int, x_call, x_lst, x_tup, x_not, x_and, x_or, x_andV, x_orV, x_notV, x_ifE, x_eqI, x_neI, x_eqB, x_neB, x_tbm, x_never, x_make, x_meth, x_isII, x_isIC, x_bool1, decide_eq_true_eq, Bool.false_eq_true, if_false, if_true, List.append_nil, List.nil_append, List.cons_append]
                rw [Int.natAbs_natCast, Int.natAbs_natCast]
                refine ite2 (fun h3 => ?_) fun h3 => ?_
                · have : n.gcd q ≠ 1 := fun e => by
                    rw [e] at h3
                    simp at h3
                  rw [if_pos (.inr this)] at kk
                  exact kk
                · have : n.gcd q = 1 := by
                    simp at h3
                    omega
                  rw [if_neg (by omega)] at kk
                  exact fin n q kk
        · rw [hg] at e1
          have i0 : atI ((g :: h :: c :: m).map V.str) 0 = some (.str g) := atI_0
          simp only [x_ix e1 i0]
          refine group_of (by rw [tl_len, hx]; omega) ?_
          simp only [x_seq, x_if, x_test, x_B, x_op, x_un, x_varS, x_var0, x_c, x_I0, x_I, x_U, x_bl, x_ret, x_next, x_eqS, x_neS, x_m0, x_m1, x_isStr, x_SM, x_addT, x_slS, x_lenT, x_strI, x_mulS, x_startT, x_findT, x_preT, x_lstT, x_ascT, x_digT, x_jn, x_js0, x_js1, x_isS, x_fmt, x_fmtS, x_divW, x_truK, x_truS, x_raiseT, x_asg, x_name, x_set0, x_setS, x_drop, x_cb, x_cons, x_nil, x_int1, x_abs1, x_max2, x_gcd, x_gsub, x_sl, x_part, x_nopart, x_int, x_call, x_lst, x_tup, x_not, x_and, x_or, x_andV, x_orV, x_notV, x_ifE, x_eqI, x_neI, x_eqB, x_neB, x_tbm, x_never, x_make, x_meth, x_isII, x_isIC, x_bool1, decide_eq_true_eq, Bool.false_eq_true, if_false, if_true, List.append_nil, List.nil_append, List.cons_append, x_lenA e1, List.length_map, List.length_cons, List.length_nil]
          rw [if_pos (by omega)]
          rw [slash_grp hr] at kk
          cases hgx : grp x with
          | none =>
            rw [hgx] at kk
            exact kk
          | some n =>
            rw [hgx] at kk
            exact kk
  unfold t_njudged
  rw [x_seq]
  simp only [x_if, x_test, x_B, x_op, x_un, x_varS, x_var0, x_c, x_I0, x_I, x_U, x_bl, x_ret, x_next, x_eqS, x_neS, x_m0, x_m1, x_isStr, x_SM, x_addT, x_slS, x_lenT, x_strI, x_mulS, x_startT, x_findT, x_preT, x_lstT, x_ascT, x_digT, x_jn, x_js0, x_js1, x_isS, x_fmt, x_fmtS, x_divW, x_truK, x_truS, x_raiseT, x_asg, x_name, x_set0, x_setS, x_drop, x_cb, x_cons, x_nil, x_int1, x_abs1, x_max2, x_gcd, x_gsub, x_sl, x_part, x_nopart, x_int, x_call, x_lst, x_tup, x_not, x_and, x_or, x_andV, x_orV, x_notV, x_ifE, x_eqI, x_neI, x_eqB, x_neB, x_tbm, x_never, x_make, x_meth, x_isII, x_isIC, x_bool1, decide_eq_true_eq, Bool.false_eq_true, if_false, if_true, List.append_nil, List.nil_append, List.cons_append]
  rw [x_seq]
  simp only [x_if, x_test, x_B, x_op, x_un, x_varS, x_var0, x_c, x_I0, x_I, x_U, x_bl, x_ret, x_next, x_eqS, x_neS, x_m0, x_m1, x_isStr, x_SM, x_addT, x_slS, x_lenT, x_strI, x_mulS, x_startT, x_findT, x_preT, x_lstT, x_ascT, x_digT, x_jn, x_js0, x_js1, x_isS, x_fmt, x_fmtS, x_divW, x_truK, x_truS, x_raiseT, x_asg, x_name, x_set0, x_setS, x_drop, x_cb, x_cons, x_nil, x_int1, x_abs1, x_max2, x_gcd, x_gsub, x_sl, x_part, x_nopart, x_int, x_call, x_lst, x_tup, x_not, x_and, x_or, x_andV, x_orV, x_notV, x_ifE, x_eqI, x_neI, x_eqB, x_neB, x_tbm, x_never, x_make, x_meth, x_isII, x_isIC, x_bool1, decide_eq_true_eq, Bool.false_eq_true, if_false, if_true, List.append_nil, List.nil_append, List.cons_append, head_minus]
  refine ⟨hz0, ite2 (fun h1 => ⟨hz0, ?_⟩) fun h1 => ?_⟩
  · refine rest _ ?_
    rw [cut1', tl_cut_from]
    unfold body
    rw [if_pos h1, List.drop_one]
  · refine rest a ?_
    unfold body
    rw [if_neg h1]
end SpX

set_option Elab.async false
set_option linter.all false
set_option maxRecDepth 100000
set_option maxHeartbeats 2000000
/-! Law k01: texts drawn. -/
namespace SpX
open PySem PySem.Spec NumText L2
open TL (tl)
/-- a text of a told length is drawn -/
def GivesS (n : Nat) (P : Addr) (H : Hp) (Q : VK) : Prop := ∀ (y : Str) (H' : Hp), y.length ≤ n → PoolAt H' P → Keep P H H' → Q (.str y) H'
theorem GivesS.after {n : Nat} {P : Addr} {H H1 : Hp} {Q : VK} (k : GivesS n P H Q) (s : Keep P H H1) : GivesS n P H1 Q := fun y H' l p q => k y H' l p (s.trans q)
def spMark : Sp := fun vs H Q _ => ∃ (P : Addr) (B : Addr → Prop), vs = [.ref P] ∧ PoolB B H P ∧ (∀ b, B b → ∃ o, H b = some o) ∧ ∀ (y : Str) (H' : Hp), y.length = 1 → PoolB B H' P → Keep P H H' → Q (.str y) H'
theorem mark_of {P : Addr} {H : Hp} {Q : VK} {E : XK} (hp : PoolAt H P) (k : GivesS 1 P H Q) : spMark [.ref P] H Q E := ⟨P, fun _ => False, rfl, hp.toB, fun _ z => z.elim, fun y H' l p q => k y H' (by omega) p.at q⟩
theorem atI_len {l : List Nat} {i : Int} (h0 : 0 ≤ i) (h1 : i < (l.length : Int)) : ∃ c, atI l i = some c := by
  obtain ⟨n, rfl⟩ := Int.eq_ofNat_of_zero_le h0
  have hn : n < l.length := by omega
  exact ⟨l[n], atI_nat (List.getElem?_eq_getElem hn)⟩
theorem one_len (c : Nat) : (⟨#[c]⟩ : Str).length = 1 := rfl
def t_nmark (P : Program) (K : PySem.W.Frag) (mg : Str → Option Value) (C Z D BN : Addr) (E : XK) : TS :=
    (tSeq (tAsg (tC (.str " !\"#$&'()*+,-./0123456789:;<=>?@ABCDEFGHIJKLMNOPQRSTUVWXYZ[\\]^_")) (gName 1))
    (tSeq (tAsg (tOp rAddT (tVar 1) (tC (.str "`abcdefghijklmnopqrstuvwxyz{|}~\n	"))) (gName 1))
    (tRet (tOp rIxS (tVar 1) (tCall spTakeB [] E0 (tCons (tVar 0) (tCons (tC (.int 96)) tNil)))))))
theorem pure_nmark {P0 : Program} {K : PySem.W.Frag} {mg : Str → Option Value} {C Z D BN : Addr} (vs : List V) (H : Hp) (Q : VK) (E : XK) (h : spMark vs H Q E) : t_nmark P0 K mg C Z D BN E { nx := fun _ H' => Q .non H', rt := Q } (start ["pool", "marks"] vs) H := by
  obtain ⟨P, B, rfl, hp, hB, k⟩ := h
  show t_nmark P0 K mg C Z D BN E _ [some (.ref P), none] H
  unfold t_nmark
  simp only [x_seq, x_if, x_test, x_B, x_op, x_un, x_varS, x_var0, x_c, x_I0, x_I, x_U, x_bl, x_ret, x_next, x_eqS, x_neS, x_m0, x_m1, x_isStr, x_SM, x_addT, x_slS, x_lenT, x_strI, x_mulS, x_startT, x_findT, x_preT, x_lstT, x_ascT, x_digT, x_jn, x_js0, x_js1, x_isS, x_fmt, x_fmtS, x_divW, x_truK, x_truS, x_raiseT, x_asg, x_name, x_set0, x_setS, x_drop, x_cb, x_cons, x_nil, x_int1, x_abs1, x_max2, x_gcd, x_gsub, x_sl, x_part, x_nopart, x_int, x_call, x_lst, x_tup, x_not, x_and, x_or, x_andV, x_orV, x_notV, x_ifE, x_eqI, x_neI, x_eqB, x_neB, x_tbm, x_never, x_make, x_meth, x_isII, x_isIC, x_bool1, decide_eq_true_eq, Bool.false_eq_true, if_false, if_true, List.append_nil, List.nil_append, List.cons_append]
  refine ⟨by decide +kernel, takeB_of (n := 31) hp hB (by decide) (.lit _ (by decide) (by decide) (by decide)) (by decide) fun r H1 hp1 k1 r0 r1 => ?_⟩
  have hl : ((tl (" !\"#$&'()*+,-./0123456789:;<=>?@ABCDEFGHIJKLMNOPQRSTUVWXYZ[\\]^_" ++ "`abcdefghijklmnopqrstuvwxyz{|}~\n	")).length : Int) = 96 := by decide +kernel
  have hs : (" !\"#$&'()*+,-./0123456789:;<=>?@ABCDEFGHIJKLMNOPQRSTUVWXYZ[\\]^_" ++ "`abcdefghijklmnopqrstuvwxyz{|}~\n	" : Str).length ≤ sizeLine := by decide +kernel
  generalize (" !\"#$&'()*+,-./0123456789:;<=>?@ABCDEFGHIJKLMNOPQRSTUVWXYZ[\\]^_" ++ "`abcdefghijklmnopqrstuvwxyz{|}~\n	" : Str) = M at hl hs ⊢
  obtain ⟨c, hc⟩ := atI_len (l := tl M) (i := r) r0 (by omega)
  simp only [x_ixS hs hc]
  exact k _ _ rfl hp1 k1
def spLong : Sp := fun vs H Q _ => ∃ P : Addr, vs = [.ref P] ∧ PoolAt H P ∧ GivesS 6000 P H Q
theorem long_of {P : Addr} {H : Hp} {Q : VK} {E : XK} (hp : PoolAt H P) (k : GivesS 6000 P H Q) : spLong [.ref P] H Q E := ⟨P, rfl, hp, k⟩
theorem x_ixL {H : Hp} {Q : VK} {p : Addr} {xs : List V} {i : Int} {v : V} (h : H p = some (.lst xs)) (ha : atI xs i = some v) : rIx1 (.ref p) (.int i) H Q = Q v H := x_ix h ha
theorem atI_in {xs : List V} {i : Int} (h0 : 0 ≤ i) (h1 : i < (xs.length : Int)) : ∃ v, v ∈ xs ∧ atI xs i = some v := by
  obtain ⟨n, rfl⟩ := Int.eq_ofNat_of_zero_le h0
  have hn : n < xs.length := by omega
  exact ⟨xs[n], List.getElem_mem hn, atI_nat (List.getElem?_eq_getElem hn)⟩
theorem add_len (x y : Str) : (x ++ y).length = x.length + y.length := by
  rw [tl_len, tl_len, tl_len, TL.tl_append, List.length_append]
theorem cut_len (x : Str) (lo hi : Option Int) : (cutS x lo hi).length ≤ x.length := cutS_length x lo hi
theorem cut_to_len (x : Str) (n : Nat) : (cutS x none (some (n : Int))).length ≤ n := by
  rw [tl_len, tl_cut_to, List.length_take]
  omega
theorem str_len {i : Int} {n : Nat} (h : (intD i).length ≤ n) : (Str.ofString (toString i)).length ≤ n := by
  rw [tl_len, tl_int]
  exact h
theorem mul_ok {a : Str} {n : Int} (h0 : 1 ≤ n) (h1 : n ≤ 10000) (h2 : a.length ≤ 20) (h3 : 1 ≤ a.length) : MulOk a n := by
  refine ⟨by simp; omega, fun _ _ => ?_, fun _ _ => ?_⟩
  · have : (20 : Int) ≤ (2 ^ 63 - 1) / n := by
      rw [Int.le_ediv_iff_mul_le (by omega)]
      omega
    omega
  · have : a.length * n.toNat ≤ 20 * 10000 := Nat.mul_le_mul h2 (by omega)
    unfold PySem.Builtin.Str.tooLong
    rw [sizeLine_eq]
    simp
    omega
theorem bd9 : Bd 31 (1000000000 : Int) := .lit _ (by decide) (by decide) (by decide)
theorem bd900 {a : Int} {n : Nat} (h : Bd n a) (l : n ≤ 900) : Bd 900 a := h.mono l
theorem intD_len2 {a : Int} {n k : Nat} (h : Bd n a) (hk : 0 < k) (l : n ≤ 3 * k) : (intD a).length ≤ k + 1 := by
  have := num_len' (n := a.natAbs) (k := k) hk (Nat.lt_of_lt_of_le h (Nat.pow_le_pow_right (by decide) l))
  unfold intD
  rw [List.length_append]
  split <;> simp <;> omega
theorem intD_ne (a : Int) : 1 ≤ (intD a).length := by
  unfold intD
  rw [List.length_append]
  have := List.length_pos_iff.mpr (num_ne a.natAbs)
  omega
def t_nlong (P : Program) (K : PySem.W.Frag) (mg : Str → Option Value) (C Z D BN : Addr) (E : XK) : TS :=
    (tSeq (tAsg (tOp rIx1 (tLst (tCons (tC (.int 59)) (tCons (tC (.int 60)) (tCons (tC (.int 61)) (tCons (tC (.int 62)) (tCons (tC (.int 70)) (tCons (tC (.int 120)) (tCons (tC (.int 500)) (tCons (tC (.int 5000)) tNil))))))))) (tCall spTakeB [] E0 (tCons (tVar 0) (tCons (tC (.int 8)) tNil)))) (gName 1))
    (tSeq (tAsg (tCB rStrI (tCons (tOp (rI0 fun i j => .int (i + j)) (tC (.int 1)) (tCall spTakeB [] E0 (tCons (tVar 0) (tCons (tOp (rI CPow fun i j => .int (i ^ j.toNat)) (tC (.int 10)) (tC (.int 9))) tNil)))) tNil)) (gName 2))
    (tSeq (tAsg (tSl rSlS (tOp rMulS (tVar 2) (tOp (rI0 fun i j => .int (i + j)) (tC (.int 1)) (tOp (rI CDivF fun i j => .int (i.fdiv j)) (tVar 1) (tCB rLenT (tCons (tVar 2) tNil))))) tNoPart (tPart (tVar 1))) (gName 3))
    (tRet (tOp rIx1 (tLst (tCons (tVar 3) (tCons (tOp rAddT (tC (.str "-")) (tVar 3)) (tCons (tOp rAddT (tVar 3) (tC (.str "/7"))) (tCons (tOp rAddT (tC (.str "7/")) (tVar 3)) tNil))))) (tCall spTakeB [] E0 (tCons (tVar 0) (tCons (tC (.int 4)) tNil))))))))
theorem pure_nlong {P0 : Program} {K : PySem.W.Frag} {mg : Str → Option Value} {C Z D BN : Addr} (vs : List V) (H : Hp) (Q : VK) (E : XK) (h : spLong vs H Q E) : t_nlong P0 K mg C Z D BN E { nx := fun _ H' => Q .non H', rt := Q } (start ["pool", "many", "block", "digits"] vs) H := by
  obtain ⟨P, rfl, hp, k⟩ := h
  show t_nlong P0 K mg C Z D BN E _ [some (.ref P), none, none, none] H
  unfold t_nlong
  simp only [x_seq, x_if, x_test, x_B, x_op, x_un, x_varS, x_var0, x_c, x_I0, x_I, x_U, x_bl, x_ret, x_next, x_eqS, x_neS, x_m0, x_m1, x_isStr, x_SM, x_addT, x_slS, x_lenT, x_strI, x_mulS, x_startT, x_findT, x_preT, x_lstT, x_ascT, x_digT, x_jn, x_js0, x_js1, x_isS, x_fmt, x_fmtS, x_divW, x_truK, x_truS, x_raiseT, x_asg, x_name, x_set0, x_setS, x_drop, x_cb, x_cons, x_nil, x_int1, x_abs1, x_max2, x_gcd, x_gsub, x_sl, x_part, x_nopart, x_int, x_call, x_lst, x_tup, x_not, x_and, x_or, x_andV, x_orV, x_notV, x_ifE, x_eqI, x_neI, x_eqB, x_neB, x_tbm, x_never, x_make, x_meth, x_isII, x_isIC, x_bool1, decide_eq_true_eq, Bool.false_eq_true, if_false, if_true, List.append_nil, List.nil_append, List.cons_append, p9]
  refine ⟨by decide, fun q hq => ?_⟩
  have s1 : Same H (upd H q (.lst [.int 59, .int 60, .int 61, .int 62, .int 70, .int 120, .int 500, .int 5000])) := Same.new hq
  have e1 : (upd H q (.lst [.int 59, .int 60, .int 61, .int 62, .int 70, .int 120, .int 500, .int 5000])) q = some (.lst [.int 59, .int 60, .int 61, .int 62, .int 70, .int 120, .int 500, .int 5000]) := upd_same
  have n1 : q ≠ P := fun e => by
    obtain ⟨_, _, _, _, _, h1⟩ := hp
    rw [e, h1.p] at hq
    cases hq
  generalize (upd H q (.lst [.int 59, .int 60, .int 61, .int 62, .int 70, .int 120, .int 500, .int 5000])) = H1 at s1 e1 ⊢
  refine take_of (n := 31) (hp.same s1) (by decide) (.lit _ (by decide) (by decide) (by decide)) (by decide) fun r H2 hp2 k2 r0 r1 => ?_
  have e2 := k2 _ _ n1 e1
  obtain ⟨v, hv, ha⟩ := atI_in (xs := [V.int 59, .int 60, .int 61, .int 62, .int 70, .int 120, .int 500, .int 5000]) r0 r1
  obtain ⟨m, rfl, m0, m1⟩ : ∃ m : Int, v = .int m ∧ 59 ≤ m ∧ m ≤ 5000 := by
    simp only [List.mem_cons, List.not_mem_nil, or_false] at hv
    rcases hv with h | h | h | h | h | h | h | h <;> exact ⟨_, h, by decide, by decide⟩
  simp only [x_seq, x_if, x_test, x_B, x_op, x_un, x_varS, x_var0, x_c, x_I0, x_I, x_U, x_bl, x_ret, x_next, x_eqS, x_neS, x_m0, x_m1, x_isStr, x_SM, x_addT, x_slS, x_lenT, x_strI, x_mulS, x_startT, x_findT, x_preT, x_lstT, x_ascT, x_digT, x_jn, x_js0, x_js1, x_isS, x_fmt, x_fmtS, x_divW, x_truK, x_truS, x_raiseT, x_asg, x_name, x_set0, x_setS, x_drop, x_cb, x_cons, x_nil, x_int1, x_abs1, x_max2, x_gcd, x_gsub, x_sl, x_part, x_nopart, x_int, x_call, x_lst, x_tup, x_not, x_and, x_or, x_andV, x_orV, x_notV, x_ifE, x_eqI, x_neI, x_eqB, x_neB, x_tbm, x_never, x_make, x_meth, x_isII, x_isIC, x_bool1, decide_eq_true_eq, Bool.false_eq_true, if_false, if_true, List.append_nil, List.nil_append, List.cons_append, x_ix e2 ha]
  refine ⟨pow_ok (by decide) (by decide) (by decide), take_of (n := 31) hp2 (by decide) bd9 (by decide) fun b H3 hp3 k3 b0 b1 => ?_⟩
  simp only [x_seq, x_if, x_test, x_B, x_op, x_un, x_varS, x_var0, x_c, x_I0, x_I, x_U, x_bl, x_ret, x_next, x_eqS, x_neS, x_m0, x_m1, x_isStr, x_SM, x_addT, x_slS, x_lenT, x_strI, x_mulS, x_startT, x_findT, x_preT, x_lstT, x_ascT, x_digT, x_jn, x_js0, x_js1, x_isS, x_fmt, x_fmtS, x_divW, x_truK, x_truS, x_raiseT, x_asg, x_name, x_set0, x_setS, x_drop, x_cb, x_cons, x_nil, x_int1, x_abs1, x_max2, x_gcd, x_gsub, x_sl, x_part, x_nopart, x_int, x_call, x_lst, x_tup, x_not, x_and, x_or, x_andV, x_orV, x_notV, x_ifE, x_eqI, x_neI, x_eqB, x_neB, x_tbm, x_never, x_make, x_meth, x_isII, x_isIC, x_bool1, decide_eq_true_eq, Bool.false_eq_true, if_false, if_true, List.append_nil, List.nil_append, List.cons_append]
  have bb : Bd 31 (1 + b) := .lit _ (by omega) (by omega) (by decide)
  have l1 : (Str.ofString (toString (1 + b))).length ≤ 12 := str_len (intD_len2 (k := 11) bb (by decide) (by decide))
  have l2 : 1 ≤ (Str.ofString (toString (1 + b))).length := by
    rw [tl_len, tl_int]
    exact intD_ne _
  refine ⟨log1920 (bb.mono (by decide)), sl5 (by omega), any_div (by omega) (Bd.lit (n := 8000) _ (by omega) (by omega) (by decide)), ?_⟩
  generalize (Str.ofString (toString (1 + b))) = B at l1 l2 ⊢
  have hd0 : 0 ≤ m.fdiv (B.length : Int) := Int.fdiv_nonneg (by omega) (by omega)
  have hd1 : m.fdiv (B.length : Int) ≤ 5000 := by
    have := Int.natAbs_fdiv_le_natAbs m (B.length : Int)
    omega
  refine ⟨mul_ok (by omega) (by omega) (by omega) l2, ?_⟩
  have hm : (Txt.mul B (1 + m.fdiv (B.length : Int))).length ≤ 12 * 5001 := PyProof.Rows.len_mul_leN l1 (by omega)
  generalize (Txt.mul B (1 + m.fdiv (B.length : Int))) = M at hm ⊢
  refine ⟨Nat.le_trans hm (by decide), ?_⟩
  obtain ⟨mn, rfl⟩ := Int.eq_ofNat_of_zero_le (show 0 ≤ m by omega)
  have hc := cut_to_len M mn
  have hcs : (cutS M none (some (Int.ofNat mn))).length ≤ mn := hc
  generalize (cutS M none (some ((mn : Nat) : Int))) = G at hc ⊢
  have hG : G.length ≤ 5000 := by omega
  have l_m : ("-" : Str).length = 1 := by decide +kernel
  have l_7 : ("/7" : Str).length = 2 := by decide +kernel
  have l_8 : ("7/" : Str).length = 2 := by decide +kernel
  have big : ∀ n : Nat, n ≤ 6000 → n ≤ sizeLine := fun n hn => Nat.le_trans hn (by decide)
  refine ⟨big _ (by omega), big _ (by omega), big _ (by omega), by show 4 ≤ sizeLine; decide, fun p hpn => ?_⟩
  have s4 : Same H3 (upd H3 p (.lst [.str G, .str ("-" ++ G), .str (G ++ "/7"), .str ("7/" ++ G)])) := Same.new hpn
  have e4 : (upd H3 p (.lst [.str G, .str ("-" ++ G), .str (G ++ "/7"), .str ("7/" ++ G)])) p = some (.lst [.str G, .str ("-" ++ G), .str (G ++ "/7"), .str ("7/" ++ G)]) := upd_same
  have n4 : p ≠ P := fun e => by
    obtain ⟨_, _, _, _, _, h1⟩ := hp3
    rw [e, h1.p] at hpn
    cases hpn
  generalize (upd H3 p (.lst [.str G, .str ("-" ++ G), .str (G ++ "/7"), .str ("7/" ++ G)])) = H4 at s4 e4 ⊢
  refine take_of (n := 31) (hp3.same s4) (by decide) (.lit _ (by decide) (by decide) (by decide)) (by decide) fun w H5 hp5 k5 w0 w1 => ?_
  have e5 := k5 _ _ n4 e4
  obtain ⟨v, hv, ha⟩ := atI_in (xs := [V.str G, .str ("-" ++ G), .str (G ++ "/7"), .str ("7/" ++ G)]) w0 w1
  simp only [x_ix e5 ha]
  have kp : Keep P H H5 := (((Keep.of s1).trans k2).trans k3).trans ((Keep.of s4).trans k5)
  simp only [List.mem_cons, List.not_mem_nil, or_false] at hv
  rcases hv with h | h | h | h <;> subst h <;> refine k _ _ ?_ hp5 kp
  · omega
  · rw [add_len]
    omega
  · rw [add_len]
    omega
  · rw [add_len]
    omega
theorem x_intB {b : Bool} {H : Hp} {Q : VK} : rInt1 [.bl b] H Q = Q (.int (if b then 1 else 0)) H := by
  unfold rInt1
  simp
theorem written_len {t b : Int} (ht : Bd 900 t) (hb : Bd 900 b) : (written t b).length ≤ 602 := by
  have l1 := intD_len ht
  have l2 := num_len' (n := b.natAbs) (k := 300) (by decide) hb
  by_cases h : b = 1
  · rw [h, written_1]
    omega
  · rw [written_n h, List.length_append, List.length_cons]
    omega
theorem written_of {o : Addr} {t b : Int} {H : Hp} {Q : VK} {E : XK} (ho : TupAt H o t b) (hb : 0 < b) (bt : Bd 900 t) (bb : Bd 900 b) (k : ∀ y : Str, tl y = written t b → Q (.str y) H) : spWritten [.ref o] H Q E := ⟨o, t, b, rfl, ho, hb, bt, bb, k⟩
def spSpoilt : Sp := fun vs H Q _ => ∃ (P o : Addr) (t b : Int), vs = [.ref P, .ref o] ∧ PoolAt H P ∧ TupAt H o t b ∧ Num60 t b ∧ GivesS 3000 P H Q
theorem pool_ne {P q : Addr} {H : Hp} (hp : PoolAt H P) (hq : H q = none) : q ≠ P := fun e => by
  obtain ⟨_, _, _, _, _, h1⟩ := hp
  rw [e, h1.p] at hq
  cases hq
/-- an item of a new list of short texts, drawn -/
theorem item_of {P q : Addr} {xs : List V} {n : Nat} {most : Int} {H : Hp} {Q : VK} (hp : PoolAt H P) (hq : H q = none) (hx : ∀ v ∈ xs, ∃ y : Str, v = .str y ∧ y.length ≤ n) (hm : most = xs.length) (h2 : 2 ≤ most) (hs : most < 1000)
    (k : ∀ (y : Str) (H' : Hp), y.length ≤ n → PoolAt H' P → Keep P H H' → Q (.str y) H') : spTakeB [.ref P, .int most] (upd H q (.lst xs)) (fun i H1 => rIx1 (.ref q) i H1 Q) E0 := by
  have n1 := pool_ne hp hq
  have s1 : Same H (upd H q (.lst xs)) := Same.new hq
  have e1 : (upd H q (.lst xs)) q = some (.lst xs) := upd_same
  refine take_of (n := 31) (hp.same s1) h2 (.lit _ (by omega) (by omega) (by decide)) (by decide) fun r H2 hp2 k2 r0 r1 => ?_
  have e2 := k2 _ _ n1 e1
  obtain ⟨v, hv, ha⟩ := atI_in (xs := xs) r0 (by omega)
  rw [x_ix e2 ha]
  obtain ⟨y, rfl, hy⟩ := hx v hv
  exact k y H2 hy hp2 ((Keep.of s1).trans k2)
theorem T_take {P : Addr} {H : Hp} {Q : VK} {E : XK} (T : Str) (hp : PoolAt H P) (l : T.length ≤ 602) (k : ∀ (r : Int) (H' : Hp), PoolAt H' P → Keep P H H' → Q (.int r) H') : spTakeB [.ref P, .int ((T.length : Int) + 1)] H Q E :=
  ⟨P, _, fun _ => False, rfl, hp.toB, fun _ z => z.elim, Bd.lit (n := 8000) _ (by omega) (by omega) (by decide), fun r H' a b _ _ _ => k r H' a.at b⟩
def t_nspoilt_3 (P : Program) (K : PySem.W.Frag) (mg : Str → Option Value) (C Z D BN : Addr) (E : XK) : TS :=
    (tSeq (tIfS (tTest (tOp rEq (tVar 3) (tC (.int 0)))) (tRet (tOp rAddT (tOp rAddT (tSl rSlS (tVar 2) tNoPart (tPart (tVar 4))) (tCall spMark [] E0 (tCons (tVar 0) tNil))) (tSl rSlS (tVar 2) (tPart (tVar 4)) tNoPart))) tNext)
    (tSeq (tIfS (tTest (tOp rEq (tVar 3) (tC (.int 1)))) (tRet (tOp rAddT (tSl rSlS (tVar 2) tNoPart (tPart (tVar 4))) (tSl rSlS (tVar 2) (tPart (tOp (rI0 fun i j => .int (i + j)) (tVar 4) (tC (.int 1)))) tNoPart))) tNext)
    (tSeq (tIfS (tTest (tOp rEq (tVar 3) (tC (.int 2)))) (tRet (tOp rAddT (tOp rAddT (tSl rSlS (tVar 2) tNoPart (tPart (tVar 4))) (tCall spMark [] E0 (tCons (tVar 0) tNil))) (tSl rSlS (tVar 2) (tPart (tOp (rI0 fun i j => .int (i + j)) (tVar 4) (tC (.int 1)))) tNoPart))) tNext)
    (tSeq (tIfS (tOr (tTest (tOp rEq (tVar 3) (tC (.int 3)))) (tTest (tOp rEq (tVar 3) (tC (.int 4))))) (tSeq (tAsg (tCB rInt1 (tCons (tOp (rI0 fun i j => .bl (decide (i < j))) (tOp rIx1 (tVar 1) (tC (.int 0))) (tC (.int 0))) tNil)) (gName 5))
    (tSeq (tIfS (tAnd (tTest (tOp rEq (tVar 3) (tC (.int 4)))) (tTest (tOp rNe (tOp rIx1 (tVar 1) (tC (.int 1))) (tC (.int 1))))) (tAsg (tOp (rI0 fun i j => .int (i + j)) (tM1 rFindT (tVar 2) (tC (.str "/"))) (tC (.int 1))) (gName 5)) tNext)
    (tRet (tOp rAddT (tOp rAddT (tSl rSlS (tVar 2) tNoPart (tPart (tVar 5))) (tC (.str "0"))) (tSl rSlS (tVar 2) (tPart (tVar 5)) tNoPart))))) tNext)
    (tSeq (tIfS (tTest (tOp rEq (tVar 3) (tC (.int 5)))) (tRet (tOp rAddT (tVar 2) (tOp rIx1 (tLst (tCons (tC (.str "/")) (tCons (tC (.str "/0")) (tCons (tC (.str "/1")) (tCons (tC (.str "/2")) (tCons (tC (.str "/-2")) (tCons (tOp rAddT (tC (.str "/")) (tVar 2)) tNil))))))) (tCall spTakeB [] E0 (tCons (tVar 0) (tCons (tC (.int 6)) tNil)))))) tNext)
    (tSeq (tIfS (tTest (tOp rEq (tVar 3) (tC (.int 6)))) (tRet (tOp rAddT (tOp rIx1 (tLst (tCons (tC (.str "+")) (tCons (tC (.str "-")) (tCons (tC (.str " ")) (tCons (tC (.str "0")) (tCons (tC (.str "	")) tNil)))))) (tCall spTakeB [] E0 (tCons (tVar 0) (tCons (tC (.int 5)) tNil)))) (tVar 2))) tNext)
    (tSeq (tIfS (tTest (tOp rEq (tVar 3) (tC (.int 7)))) (tRet (tOp rAddT (tVar 2) (tOp rIx1 (tLst (tCons (tC (.str " ")) (tCons (tC (.str "\n")) (tCons (tC (.str "	")) (tCons (tC (.str ".0")) (tCons (tC (.str "e1")) (tCons (tC (.str "_0")) tNil))))))) (tCall spTakeB [] E0 (tCons (tVar 0) (tCons (tC (.int 6)) tNil)))))) tNext)
    (tSeq (tIfS (tTest (tOp rEq (tVar 3) (tC (.int 8)))) (tSeq (tAsg (tOp (rI0 fun i j => .int (i + j)) (tC (.int 2)) (tCall spTakeB [] E0 (tCons (tVar 0) (tCons (tC (.int 8)) tNil)))) (gName 6))
    (tRet (tOp rAddT (tOp rAddT (tCB rStrI (tCons (tOp (rI IntMulOk fun i j => .int (i * j)) (tOp rIx1 (tVar 1) (tC (.int 0))) (tVar 6)) tNil)) (tC (.str "/"))) (tCB rStrI (tCons (tOp (rI IntMulOk fun i j => .int (i * j)) (tOp rIx1 (tVar 1) (tC (.int 1))) (tVar 6)) tNil))))) tNext)
    (tRet (tVar 2))))))))))
def t_nspoilt (P : Program) (K : PySem.W.Frag) (mg : Str → Option Value) (C Z D BN : Addr) (E : XK) : TS :=
    (tSeq (tAsg (tCall spWritten [] E0 (tCons (tVar 1) tNil)) (gName 2))
    (tSeq (tAsg (tCall spTakeB [] E0 (tCons (tVar 0) (tCons (tC (.int 10)) tNil))) (gName 3))
    (tSeq (tAsg (tCall spTakeB [] E0 (tCons (tVar 0) (tCons (tOp (rI0 fun i j => .int (i + j)) (tCB rLenT (tCons (tVar 2) tNil)) (tC (.int 1))) tNil))) (gName 4))
    (tSeq (tIfS (tTest (tOp rEq (tVar 3) (tC (.int 0)))) (tRet (tOp rAddT (tOp rAddT (tSl rSlS (tVar 2) tNoPart (tPart (tVar 4))) (tCall spMark [] E0 (tCons (tVar 0) tNil))) (tSl rSlS (tVar 2) (tPart (tVar 4)) tNoPart))) tNext)
    (tSeq (tIfS (tTest (tOp rEq (tVar 3) (tC (.int 1)))) (tRet (tOp rAddT (tSl rSlS (tVar 2) tNoPart (tPart (tVar 4))) (tSl rSlS (tVar 2) (tPart (tOp (rI0 fun i j => .int (i + j)) (tVar 4) (tC (.int 1)))) tNoPart))) tNext)
    (tSeq (tIfS (tTest (tOp rEq (tVar 3) (tC (.int 2)))) (tRet (tOp rAddT (tOp rAddT (tSl rSlS (tVar 2) tNoPart (tPart (tVar 4))) (tCall spMark [] E0 (tCons (tVar 0) tNil))) (tSl rSlS (tVar 2) (tPart (tOp (rI0 fun i j => .int (i + j)) (tVar 4) (tC (.int 1)))) tNoPart))) tNext)
    (tSeq (tIfS (tOr (tTest (tOp rEq (tVar 3) (tC (.int 3)))) (tTest (tOp rEq (tVar 3) (tC (.int 4))))) (tSeq (tAsg (tCB rInt1 (tCons (tOp (rI0 fun i j => .bl (decide (i < j))) (tOp rIx1 (tVar 1) (tC (.int 0))) (tC (.int 0))) tNil)) (gName 5))
    (tSeq (tIfS (tAnd (tTest (tOp rEq (tVar 3) (tC (.int 4)))) (tTest (tOp rNe (tOp rIx1 (tVar 1) (tC (.int 1))) (tC (.int 1))))) (tAsg (tOp (rI0 fun i j => .int (i + j)) (tM1 rFindT (tVar 2) (tC (.str "/"))) (tC (.int 1))) (gName 5)) tNext)
    (tRet (tOp rAddT (tOp rAddT (tSl rSlS (tVar 2) tNoPart (tPart (tVar 5))) (tC (.str "0"))) (tSl rSlS (tVar 2) (tPart (tVar 5)) tNoPart))))) tNext)
    (tSeq (tIfS (tTest (tOp rEq (tVar 3) (tC (.int 5)))) (tRet (tOp rAddT (tVar 2) (tOp rIx1 (tLst (tCons (tC (.str "/")) (tCons (tC (.str "/0")) (tCons (tC (.str "/1")) (tCons (tC (.str "/2")) (tCons (tC (.str "/-2")) (tCons (tOp rAddT (tC (.str "/")) (tVar 2)) tNil))))))) (tCall spTakeB [] E0 (tCons (tVar 0) (tCons (tC (.int 6)) tNil)))))) tNext)
    (tSeq (tIfS (tTest (tOp rEq (tVar 3) (tC (.int 6)))) (tRet (tOp rAddT (tOp rIx1 (tLst (tCons (tC (.str "+")) (tCons (tC (.str "-")) (tCons (tC (.str " ")) (tCons (tC (.str "0")) (tCons (tC (.str "	")) tNil)))))) (tCall spTakeB [] E0 (tCons (tVar 0) (tCons (tC (.int 5)) tNil)))) (tVar 2))) tNext)
    (tSeq (tIfS (tTest (tOp rEq (tVar 3) (tC (.int 7)))) (tRet (tOp rAddT (tVar 2) (tOp rIx1 (tLst (tCons (tC (.str " ")) (tCons (tC (.str "\n")) (tCons (tC (.str "	")) (tCons (tC (.str ".0")) (tCons (tC (.str "e1")) (tCons (tC (.str "_0")) tNil))))))) (tCall spTakeB [] E0 (tCons (tVar 0) (tCons (tC (.int 6)) tNil)))))) tNext)
    (tSeq (tIfS (tTest (tOp rEq (tVar 3) (tC (.int 8)))) (tSeq (tAsg (tOp (rI0 fun i j => .int (i + j)) (tC (.int 2)) (tCall spTakeB [] E0 (tCons (tVar 0) (tCons (tC (.int 8)) tNil)))) (gName 6))
    (tRet (tOp rAddT (tOp rAddT (tCB rStrI (tCons (tOp (rI IntMulOk fun i j => .int (i * j)) (tOp rIx1 (tVar 1) (tC (.int 0))) (tVar 6)) tNil)) (tC (.str "/"))) (tCB rStrI (tCons (tOp (rI IntMulOk fun i j => .int (i * j)) (tOp rIx1 (tVar 1) (tC (.int 1))) (tVar 6)) tNil))))) tNext)
    (tRet (tVar 2)))))))))))))
theorem pure_nspoilt {P0 : Program} {K : PySem.W.Frag} {mg : Str → Option Value} {C Z D BN : Addr} (vs : List V) (H : Hp) (Q : VK) (E : XK) (h : spSpoilt vs H Q E) : t_nspoilt P0 K mg C Z D BN E { nx := fun _ H' => Q .non H', rt := Q } (start ["pool", "pair", "text", "way", "at", "start", "factor"] vs) H := by
  obtain ⟨P, o, t, b, rfl, hp, ho, hn, k⟩ := h
  show t_nspoilt P0 K mg C Z D BN E _ [some (.ref P), some (.ref o), none, none, none, none, none] H
  have bt : Bd 200 t := bd60 hn.t
  have bb : Bd 200 b := bd60 hn.b
  unfold t_nspoilt
  rw [x_seq]
  simp only [x_if, x_test, x_B, x_op, x_un, x_varS, x_var0, x_c, x_I0, x_I, x_U, x_bl, x_ret, x_next, x_eqS, x_neS, x_m0, x_m1, x_isStr, x_SM, x_addT, x_slS, x_lenT, x_strI, x_mulS, x_startT, x_findT, x_preT, x_lstT, x_ascT, x_digT, x_jn, x_js0, x_js1, x_isS, x_fmt, x_fmtS, x_divW, x_truK, x_truS, x_raiseT, x_asg, x_name, x_set0, x_setS, x_drop, x_cb, x_cons, x_nil, x_int1, x_abs1, x_max2, x_gcd, x_gsub, x_sl, x_part, x_nopart, x_int, x_call, x_lst, x_tup, x_not, x_and, x_or, x_andV, x_orV, x_notV, x_ifE, x_eqI, x_neI, x_eqB, x_neB, x_tbm, x_never, x_make, x_meth, x_isII, x_isIC, x_bool1, decide_eq_true_eq, Bool.false_eq_true, if_false, if_true, List.append_nil, List.nil_append, List.cons_append]
  refine written_of ho hn.pos (bt.mono (by decide)) (bb.mono (by decide)) fun T hT => ?_
  have lT : T.length ≤ 602 := by
    rw [tl_len, hT]
    exact written_len (bt.mono (by decide)) (bb.mono (by decide))
  clear hT
  try dsimp only
  rw [x_seq]
  simp only [x_if, x_test, x_B, x_op, x_un, x_varS, x_var0, x_c, x_I0, x_I, x_U, x_bl, x_ret, x_next, x_eqS, x_neS, x_m0, x_m1, x_isStr, x_SM, x_addT, x_slS, x_lenT, x_strI, x_mulS, x_startT, x_findT, x_preT, x_lstT, x_ascT, x_digT, x_jn, x_js0, x_js1, x_isS, x_fmt, x_fmtS, x_divW, x_truK, x_truS, x_raiseT, x_asg, x_name, x_set0, x_setS, x_drop, x_cb, x_cons, x_nil, x_int1, x_abs1, x_max2, x_gcd, x_gsub, x_sl, x_part, x_nopart, x_int, x_call, x_lst, x_tup, x_not, x_and, x_or, x_andV, x_orV, x_notV, x_ifE, x_eqI, x_neI, x_eqB, x_neB, x_tbm, x_never, x_make, x_meth, x_isII, x_isIC, x_bool1, decide_eq_true_eq, Bool.false_eq_true, if_false, if_true, List.append_nil, List.nil_append, List.cons_append]
  refine take_of (n := 31) hp (by decide) (.lit _ (by decide) (by decide) (by decide)) (by decide) fun way H1 hp1 k1 _ _ => ?_
  have ho := ho.keep hp k1
  rw [x_seq]
  simp only [x_if, x_test, x_B, x_op, x_un, x_varS, x_var0, x_c, x_I0, x_I, x_U, x_bl, x_ret, x_next, x_eqS, x_neS, x_m0, x_m1, x_isStr, x_SM, x_addT, x_slS, x_lenT, x_strI, x_mulS, x_startT, x_findT, x_preT, x_lstT, x_ascT, x_digT, x_jn, x_js0, x_js1, x_isS, x_fmt, x_fmtS, x_divW, x_truK, x_truS, x_raiseT, x_asg, x_name, x_set0, x_setS, x_drop, x_cb, x_cons, x_nil, x_int1, x_abs1, x_max2, x_gcd, x_gsub, x_sl, x_part, x_nopart, x_int, x_call, x_lst, x_tup, x_not, x_and, x_or, x_andV, x_orV, x_notV, x_ifE, x_eqI, x_neI, x_eqB, x_neB, x_tbm, x_never, x_make, x_meth, x_isII, x_isIC, x_bool1, decide_eq_true_eq, Bool.false_eq_true, if_false, if_true, List.append_nil, List.nil_append, List.cons_append]
  have big : ∀ n : Nat, n ≤ 6000 → n ≤ sizeLine := fun n hn => Nat.le_trans hn (by decide)
  refine ⟨big _ (by omega), T_take T hp1 lT fun at0' H2 hp2 k2 => ?_⟩
  have ho := ho.keep hp1 k2
  have k := k.after (k1.trans k2)
  show t_nspoilt_3 P0 K mg C Z D BN E _ [some (.ref P), some (.ref o), some (.str T), some (.int way), some (.int at0'), none, none] H2
  clear hp hp1 k1 k2
  have cl := cut_len T
  have l1 : ∀ s : Str, s.length ≤ 1 → s.length ≤ 1 := fun _ h => h
  unfold t_nspoilt_3
  simp only [x_seq, x_if, x_test, x_B, x_op, x_un, x_varS, x_var0, x_c, x_I0, x_I, x_U, x_bl, x_ret, x_next, x_eqS, x_neS, x_m0, x_m1, x_isStr, x_SM, x_addT, x_slS, x_lenT, x_strI, x_mulS, x_startT, x_findT, x_preT, x_lstT, x_ascT, x_digT, x_jn, x_js0, x_js1, x_isS, x_fmt, x_fmtS, x_divW, x_truK, x_truS, x_raiseT, x_asg, x_name, x_set0, x_setS, x_drop, x_cb, x_cons, x_nil, x_int1, x_abs1, x_max2, x_gcd, x_gsub, x_sl, x_part, x_nopart, x_int, x_call, x_lst, x_tup, x_not, x_and, x_or, x_andV, x_orV, x_notV, x_ifE, x_eqI, x_neI, x_eqB, x_neB, x_tbm, x_never, x_make, x_meth, x_isII, x_isIC, x_bool1, decide_eq_true_eq, Bool.false_eq_true, if_false, if_true, List.append_nil, List.nil_append, List.cons_append]
  refine ite2 (fun _ => ?_) fun _ => ite2 (fun _ => ?_) fun _ => ite2 (fun _ => ?_) fun _ => ?_
  · refine ⟨big _ (by omega), mark_of hp2 fun M H3 lM hp3 k3 => ?_⟩
    have c1 := cl none (some at0')
    have c2 := cl (some at0') none
    simp only [x_seq, x_if, x_test, x_B, x_op, x_un, x_varS, x_var0, x_c, x_I0, x_I, x_U, x_bl, x_ret, x_next, x_eqS, x_neS, x_m0, x_m1, x_isStr, x_SM, x_addT, x_slS, x_lenT, x_strI, x_mulS, x_startT, x_findT, x_preT, x_lstT, x_ascT, x_digT, x_jn, x_js0, x_js1, x_isS, x_fmt, x_fmtS, x_divW, x_truK, x_truS, x_raiseT, x_asg, x_name, x_set0, x_setS, x_drop, x_cb, x_cons, x_nil, x_int1, x_abs1, x_max2, x_gcd, x_gsub, x_sl, x_part, x_nopart, x_int, x_call, x_lst, x_tup, x_not, x_and, x_or, x_andV, x_orV, x_notV, x_ifE, x_eqI, x_neI, x_eqB, x_neB, x_tbm, x_never, x_make, x_meth, x_isII, x_isIC, x_bool1, decide_eq_true_eq, Bool.false_eq_true, if_false, if_true, List.append_nil, List.nil_append, List.cons_append]
    generalize cutS T none (some at0') = A at c1 ⊢
    generalize cutS T (some at0') none = B at c2 ⊢
    exact ⟨big _ (by omega), big _ (by omega), big _ (by rw [add_len]; omega), k _ _ (by rw [add_len, add_len]; omega) hp3 k3⟩
  · have c1 := cl none (some at0')
    have c2 := cl (some (at0' + 1)) none
    generalize cutS T none (some at0') = A at c1 ⊢
    generalize cutS T (some (at0' + 1)) none = B at c2 ⊢
    exact ⟨big _ (by omega), big _ (by omega), big _ (by omega), k _ _ (by rw [add_len]; omega) hp2 (Keep.refl _ _)⟩
  · refine ⟨big _ (by omega), mark_of hp2 fun M H3 lM hp3 k3 => ?_⟩
    have c1 := cl none (some at0')
    have c2 := cl (some (at0' + 1)) none
    simp only [x_seq, x_if, x_test, x_B, x_op, x_un, x_varS, x_var0, x_c, x_I0, x_I, x_U, x_bl, x_ret, x_next, x_eqS, x_neS, x_m0, x_m1, x_isStr, x_SM, x_addT, x_slS, x_lenT, x_strI, x_mulS, x_startT, x_findT, x_preT, x_lstT, x_ascT, x_digT, x_jn, x_js0, x_js1, x_isS, x_fmt, x_fmtS, x_divW, x_truK, x_truS, x_raiseT, x_asg, x_name, x_set0, x_setS, x_drop, x_cb, x_cons, x_nil, x_int1, x_abs1, x_max2, x_gcd, x_gsub, x_sl, x_part, x_nopart, x_int, x_call, x_lst, x_tup, x_not, x_and, x_or, x_andV, x_orV, x_notV, x_ifE, x_eqI, x_neI, x_eqB, x_neB, x_tbm, x_never, x_make, x_meth, x_isII, x_isIC, x_bool1, decide_eq_true_eq, Bool.false_eq_true, if_false, if_true, List.append_nil, List.nil_append, List.cons_append]
    generalize cutS T none (some at0') = A at c1 ⊢
    generalize cutS T (some (at0' + 1)) none = B at c2 ⊢
    exact ⟨big _ (by omega), big _ (by omega), big _ (by rw [add_len]; omega), k _ _ (by rw [add_len, add_len]; omega) hp3 k3⟩
  have l_0 : ("0" : Str).length = 1 := by decide +kernel
  have l_s : ("/" : Str).length = 1 := by decide +kernel
  have mid : ∀ i : Int, T.length ≤ sizeLine ∧ (cutS T none (some i)).length + ("0" : Str).length ≤ sizeLine ∧ T.length ≤ sizeLine ∧ (cutS T none (some i) ++ "0").length + (cutS T (some i) none).length ≤ sizeLine ∧ Q (.str (cutS T none (some i) ++ "0" ++ cutS T (some i) none)) H2 := by
    intro i
    have c1 := cl none (some i)
    have c2 := cl (some i) none
    generalize cutS T none (some i) = A at c1 ⊢
    generalize cutS T (some i) none = B at c2 ⊢
    exact ⟨big _ (by omega), big _ (by omega), big _ (by omega), big _ (by rw [add_len]; omega), k _ _ (by rw [add_len, add_len]; omega) hp2 (Keep.refl _ _)⟩
  simp only [x_seq, x_if, x_test, x_B, x_op, x_un, x_varS, x_var0, x_c, x_I0, x_I, x_U, x_bl, x_ret, x_next, x_eqS, x_neS, x_m0, x_m1, x_isStr, x_SM, x_addT, x_slS, x_lenT, x_strI, x_mulS, x_startT, x_findT, x_preT, x_lstT, x_ascT, x_digT, x_jn, x_js0, x_js1, x_isS, x_fmt, x_fmtS, x_divW, x_truK, x_truS, x_raiseT, x_asg, x_name, x_set0, x_setS, x_drop, x_cb, x_cons, x_nil, x_int1, x_abs1, x_max2, x_gcd, x_gsub, x_sl, x_part, x_nopart, x_int, x_call, x_lst, x_tup, x_not, x_and, x_or, x_andV, x_orV, x_notV, x_ifE, x_eqI, x_neI, x_eqB, x_neB, x_tbm, x_never, x_make, x_meth, x_isII, x_isIC, x_bool1, decide_eq_true_eq, Bool.false_eq_true, if_false, if_true, List.append_nil, List.nil_append, List.cons_append, x_ixT ho at0, x_ixT ho at1, x_intB]
  refine ite2 (fun _ => ite2 (fun _ => ite2 (fun _ => mid _) fun _ => mid _) fun _ => mid _) fun _ => ite2 (fun _ => ite2 (fun _ => ite2 (fun _ => mid _) fun _ => mid _) fun _ => mid _) fun _ => ?_
  refine ite2 (fun _ => ?_) fun _ => ite2 (fun _ => ?_) fun _ => ite2 (fun _ => ?_) fun _ => ite2 (fun _ => ?_) fun _ => k _ _ (by omega) hp2 (Keep.refl _ _)
  · refine ⟨big _ (by omega), by show 6 ≤ sizeLine; decide, fun p hpn => item_of (n := 700) hp2 hpn ?_ rfl (by decide) (by decide) fun y H3 ly hp3 k3 => ?_⟩
    · intro v hv
      simp only [List.mem_cons, List.not_mem_nil, or_false] at hv
      rcases hv with h | h | h | h | h | h <;> subst h
      · exact ⟨_, rfl, by decide +kernel⟩
      · exact ⟨_, rfl, by decide +kernel⟩
      · exact ⟨_, rfl, by decide +kernel⟩
      · exact ⟨_, rfl, by decide +kernel⟩
      · exact ⟨_, rfl, by decide +kernel⟩
      · exact ⟨_, rfl, by rw [add_len]; omega⟩
    · simp only [x_seq, x_if, x_test, x_B, x_op, x_un, x_varS, x_var0, x_c, x_I0, x_I, x_U, x_bl, x_ret, x_next, x_eqS, x_neS, x_m0, x_m1, x_isStr, x_SM, x_addT, x_slS, x_lenT, x_strI, x_mulS, x_startT, x_findT, x_preT, x_lstT, x_ascT, x_digT, x_jn, x_js0, x_js1, x_isS, x_fmt, x_fmtS, x_divW, x_truK, x_truS, x_raiseT, x_asg, x_name, x_set0, x_setS, x_drop, x_cb, x_cons, x_nil, x_int1, x_abs1, x_max2, x_gcd, x_gsub, x_sl, x_part, x_nopart, x_int, x_call, x_lst, x_tup, x_not, x_and, x_or, x_andV, x_orV, x_notV, x_ifE, x_eqI, x_neI, x_eqB, x_neB, x_tbm, x_never, x_make, x_meth, x_isII, x_isIC, x_bool1, decide_eq_true_eq, Bool.false_eq_true, if_false, if_true, List.append_nil, List.nil_append, List.cons_append]
      exact ⟨big _ (by omega), k _ _ (by rw [add_len]; omega) hp3 k3⟩
  · refine ⟨by show 5 ≤ sizeLine; decide, fun p hpn => item_of (n := 700) hp2 hpn ?_ rfl (by decide) (by decide) fun y H3 ly hp3 k3 => ?_⟩
    · intro v hv
      simp only [List.mem_cons, List.not_mem_nil, or_false] at hv
      rcases hv with h | h | h | h | h <;> subst h <;> exact ⟨_, rfl, by decide +kernel⟩
    · simp only [x_seq, x_if, x_test, x_B, x_op, x_un, x_varS, x_var0, x_c, x_I0, x_I, x_U, x_bl, x_ret, x_next, x_eqS, x_neS, x_m0, x_m1, x_isStr, x_SM, x_addT, x_slS, x_lenT, x_strI, x_mulS, x_startT, x_findT, x_preT, x_lstT, x_ascT, x_digT, x_jn, x_js0, x_js1, x_isS, x_fmt, x_fmtS, x_divW, x_truK, x_truS, x_raiseT, x_asg, x_name, x_set0, x_setS, x_drop, x_cb, x_cons, x_nil, x_int1, x_abs1, x_max2, x_gcd, x_gsub, x_sl, x_part, x_nopart, x_int, x_call, x_lst, x_tup, x_not, x_and, x_or, x_andV, x_orV, x_notV, x_ifE, x_eqI, x_neI, x_eqB, x_neB, x_tbm, x_never, x_make, x_meth, x_isII, x_isIC, x_bool1, decide_eq_true_eq, Bool.false_eq_true, if_false, if_true, List.append_nil, List.nil_append, List.cons_append]
      exact ⟨big _ (by omega), k _ _ (by rw [add_len]; omega) hp3 k3⟩
  · refine ⟨by show 6 ≤ sizeLine; decide, fun p hpn => item_of (n := 700) hp2 hpn ?_ rfl (by decide) (by decide) fun y H3 ly hp3 k3 => ?_⟩
    · intro v hv
      simp only [List.mem_cons, List.not_mem_nil, or_false] at hv
      rcases hv with h | h | h | h | h | h <;> subst h <;> exact ⟨_, rfl, by decide +kernel⟩
    · simp only [x_seq, x_if, x_test, x_B, x_op, x_un, x_varS, x_var0, x_c, x_I0, x_I, x_U, x_bl, x_ret, x_next, x_eqS, x_neS, x_m0, x_m1, x_isStr, x_SM, x_addT, x_slS, x_lenT, x_strI, x_mulS, x_startT, x_findT, x_preT, x_lstT, x_ascT, x_digT, x_jn, x_js0, x_js1, x_isS, x_fmt, x_fmtS, x_divW, x_truK, x_truS, x_raiseT, x_asg, x_name, x_set0, x_setS, x_drop, x_cb, x_cons, x_nil, x_int1, x_abs1, x_max2, x_gcd, x_gsub, x_sl, x_part, x_nopart, x_int, x_call, x_lst, x_tup, x_not, x_and, x_or, x_andV, x_orV, x_notV, x_ifE, x_eqI, x_neI, x_eqB, x_neB, x_tbm, x_never, x_make, x_meth, x_isII, x_isIC, x_bool1, decide_eq_true_eq, Bool.false_eq_true, if_false, if_true, List.append_nil, List.nil_append, List.cons_append]
      exact ⟨big _ (by omega), k _ _ (by rw [add_len]; omega) hp3 k3⟩
  · refine take_of (n := 31) hp2 (by decide) (.lit _ (by decide) (by decide) (by decide)) (by decide) fun f H3 hp3 k3 f0 f1 => ?_
    have ho := ho.keep hp2 k3
    simp only [x_seq, x_if, x_test, x_B, x_op, x_un, x_varS, x_var0, x_c, x_I0, x_I, x_U, x_bl, x_ret, x_next, x_eqS, x_neS, x_m0, x_m1, x_isStr, x_SM, x_addT, x_slS, x_lenT, x_strI, x_mulS, x_startT, x_findT, x_preT, x_lstT, x_ascT, x_digT, x_jn, x_js0, x_js1, x_isS, x_fmt, x_fmtS, x_divW, x_truK, x_truS, x_raiseT, x_asg, x_name, x_set0, x_setS, x_drop, x_cb, x_cons, x_nil, x_int1, x_abs1, x_max2, x_gcd, x_gsub, x_sl, x_part, x_nopart, x_int, x_call, x_lst, x_tup, x_not, x_and, x_or, x_andV, x_orV, x_notV, x_ifE, x_eqI, x_neI, x_eqB, x_neB, x_tbm, x_never, x_make, x_meth, x_isII, x_isIC, x_bool1, decide_eq_true_eq, Bool.false_eq_true, if_false, if_true, List.append_nil, List.nil_append, List.cons_append, x_ixT ho at0, x_ixT ho at1]
    have bf : Bd 31 (2 + f) := .lit _ (by omega) (by omega) (by decide)
    have m1 := bt.mul bf
    have m2 := bb.mul bf
    have l1 : (Str.ofString (toString (t * (2 + f)))).length ≤ 302 := str_len (intD_len2 (k := 301) m1 (by decide) (by decide))
    have l2 : (Str.ofString (toString (b * (2 + f)))).length ≤ 302 := str_len (intD_len2 (k := 301) m2 (by decide) (by decide))
    refine ⟨bt.ok bf (by decide) (by decide) (by decide), log1920 (m1.mono (by decide)), big _ (by omega), bb.ok bf (by decide) (by decide) (by decide), log1920 (m2.mono (by decide)), big _ (by rw [add_len]; omega), k _ _ (by rw [add_len, add_len]; omega) hp3 k3⟩
end SpX

set_option Elab.async false
set_option linter.all false
set_option maxRecDepth 100000
set_option maxHeartbeats 2000000
/-! Law k01: any text; the texts that are nearly numbers. -/
namespace SpX
open PySem PySem.Spec NumText L2
open TL (tl)
theorem x_lcR {te tb : TE} {g : TG} {tt : TT} {vs : List Nat} {σ : L2.St} {H : Hp} {Q : VK} : tLc (iRng1 (tCons te tNil)) g tt tb vs σ H Q = te σ H (fun v H1 => tLc (iRng1 (tCons (tC v) tNil)) g tt tb vs σ H1 Q) := rfl
theorem wipe1n {σ : L2.St} {i : Nat} {x : V} : wipe ((wipe σ [i]).set i (some x)) [i] = wipe σ [i] := by
  show ((σ.set i none).set i (some x)).set i none = σ.set i none
  rw [List.set_set, List.set_set]
/-- a list of signs, drawn one by one -/
theorem lc_signs {te : TE} {σ : L2.St} {H : Hp} {Q : VK} {P : Addr} {i : Nat} {n : Int} (h0 : 0 ≤ n) (h1 : n < 1000) (hp : PoolAt H P)
    (he : ∀ (j : Nat) (H' : Hp) (B : Addr → Prop) (QQ : VK), PoolB B H' P → (∀ b, B b → ∃ o, H' b = some o) → (∀ (y : Str) (H2 : Hp), y.length = 1 → PoolB B H2 P → Keep P H' H2 → QQ (.str y) H2) → te ((wipe σ [i]).set i (some (.int (j : Int)))) H' QQ)
    (k : ∀ (D : Addr) (H' : Hp) (ys : List Str), ys.length ≤ 1000 → (∀ y ∈ ys, y.length = 1) → H' D = some (.lst (ys.map V.str)) → PoolAt H' P → Keep P H H' → Q (.ref D) H') : tLc (iRng1 (tCons (tC (.int n)) tNil)) (gName i) tYes te [i] σ H Q := by
  refine ⟨n, rfl, by omega, by omega, fun D hD => ?_⟩
  have nD := pool_ne hp hD
  refine lc_range (lo := 0) (fun j H' => ∃ ys : List Str, ys.length = j ∧ (∀ y ∈ ys, y.length = 1) ∧ H' D = some (.lst (ys.map V.str)) ∧ PoolB (fun b => False ∨ b = D) H' P ∧ Keep P H H')
    ⟨[], rfl, fun _ h => absurd h (by simp), upd_same, hp.toB.more hD, Keep.of (Same.new hD)⟩ (fun j H' hj hh => ?_) fun H' hh => ?_
  · obtain ⟨ys, l, h1', e, hb, kp⟩ := hh
    refine ⟨wipe1n, ?_⟩
    unfold tYes
    dsimp only
    rw [if_pos rfl, Int.zero_add]
    refine he j H' (fun b => False ∨ b = D) _ hb (fun b hb => ?_) fun y H2 ly hb2 k2 => ?_
    · rcases hb with z | z
      · exact z.elim
      · exact ⟨_, by rw [z]; exact e⟩
    · have e2 := k2 _ _ nD e
      refine ⟨ys.map V.str, e2, ?_, ys ++ [y], ?_, ?_, ?_, ?_, ?_⟩
      · rw [List.length_map, l]
        exact Nat.lt_of_lt_of_le (show j < 1000 by omega) (by decide)
      · rw [List.length_append, l]
        rfl
      · intro z hz
        rcases List.mem_append.mp hz with q | q
        · exact h1' z q
        · rw [List.mem_singleton.mp q]
          exact ly
      · rw [upd_same, List.map_append]
        rfl
      · exact hb2.put (.inr rfl) nD
      · intro b o hb' eb
        rw [upd_ne (ne_of_none eb hD)]
        exact (kp.trans k2) b o hb' eb
  · obtain ⟨ys, l, h1', e, hb, kp⟩ := hh
    exact k D H' ys (by omega) h1' e hb.at kp
def spText : Sp := fun vs H Q _ => ∃ (P o : Addr) (t b : Int), vs = [.ref P, .ref o] ∧ PoolAt H P ∧ TupAt H o t b ∧ Num60 t b ∧ GivesS 6000 P H Q
theorem empty_lit : ("" : Str) = Str.empty := by decide +kernel
theorem join_signs {ys : List Str} {n : Nat} (l : ys.length ≤ n) (h : ∀ y ∈ ys, y.length = 1) : (ys.map (·.length)).sum ≤ n ∧ (Txt.join "" ys).length ≤ n := by
  have e : (ys.map (·.length)).sum = ys.length := by
    clear l
    induction ys with
    | nil => rfl
    | cons y r ih =>
      rw [List.map_cons, List.sum_cons, ih (fun z hz => h z (List.mem_cons_of_mem _ hz)), h y List.mem_cons_self, List.length_cons]
      omega
  refine ⟨by omega, ?_⟩
  rw [empty_lit, tl_len, tl_join0, List.length_flatten, List.map_map]
  have : (List.length ∘ tl) = fun y : Str => y.length := by
    funext y
    exact (tl_len y).symm
  rw [this]
  omega
theorem join_end {P D : Addr} {H H' : Hp} {Q : VK} {K : PySem.W.Frag} {ys : List Str} (k : GivesS 6000 P H Q) (l : ys.length ≤ 1000) (h : ∀ y ∈ ys, y.length = 1) (e : H' D = some (.lst (ys.map V.str))) (hp : PoolAt H' P) (kp : Keep P H H') : rJoinT K (.str "") [.ref D] H' Q := by
  obtain ⟨j1, j2⟩ := join_signs l h
  have l0 : ("" : Str).length = 0 := by decide +kernel
  exact ⟨_, D, ys, rfl, rfl, .inl (SqL.at e), by rw [l0, Nat.mul_zero]; omega, k _ _ (by omega) hp kp⟩
def t_ntext (P : Program) (K : PySem.W.Frag) (mg : Str → Option Value) (C Z D BN : Addr) (E : XK) : TS :=
    (tSeq (tAsg (tCall spTakeB [] E0 (tCons (tVar 0) (tCons (tC (.int 8)) tNil))) (gName 2))
    (tSeq (tIfS (tTest (tOp rEq (tVar 2) (tC (.int 0)))) (tRet (tM1 (rJoinT K) (tC (.str "")) (tLc (iRng1 (tCons (tCall spTakeB [] E0 (tCons (tVar 0) (tCons (tC (.int 131)) tNil))) tNil)) (gName 3) tYes (tCall spMark [] E0 (tCons (tVar 0) tNil)) [3]))) tNext)
    (tSeq (tIfS (tTest (tOp rEq (tVar 2) (tC (.int 1)))) (tRet (tM1 (rJoinT K) (tC (.str "")) (tLc (iRng1 (tCons (tCall spTakeB [] E0 (tCons (tVar 0) (tCons (tC (.int 13)) tNil))) tNil)) (gName 3) tYes (tOp rIxS (tC (.str "0123456789-/")) (tCall spTakeB [] E0 (tCons (tVar 0) (tCons (tC (.int 12)) tNil)))) [3]))) tNext)
    (tSeq (tIfS (tTest (tOp rEq (tVar 2) (tC (.int 2)))) (tRet (tCall spLong [] E0 (tCons (tVar 0) tNil))) tNext)
    (tRet (tCall spSpoilt [] E0 (tCons (tVar 0) (tCons (tVar 1) tNil))))))))
theorem pure_ntext {P0 : Program} {K : PySem.W.Frag} {mg : Str → Option Value} {C Z D BN : Addr} (vs : List V) (H : Hp) (Q : VK) (E : XK) (h : spText vs H Q E) : t_ntext P0 K mg C Z D BN E { nx := fun _ H' => Q .non H', rt := Q } (start ["pool", "pair", "kind", "k"] vs) H := by
  obtain ⟨P, o, t, b, rfl, hp, ho, hn, k⟩ := h
  show t_ntext P0 K mg C Z D BN E _ [some (.ref P), some (.ref o), none, none] H
  unfold t_ntext
  simp only [x_seq, x_if, x_test, x_B, x_op, x_un, x_varS, x_var0, x_c, x_I0, x_I, x_U, x_bl, x_ret, x_next, x_eqS, x_neS, x_m0, x_m1, x_isStr, x_SM, x_addT, x_slS, x_lenT, x_strI, x_mulS, x_startT, x_findT, x_preT, x_lstT, x_ascT, x_digT, x_jn, x_js0, x_js1, x_isS, x_fmt, x_fmtS, x_divW, x_truK, x_truS, x_raiseT, x_asg, x_name, x_set0, x_setS, x_drop, x_cb, x_cons, x_nil, x_int1, x_abs1, x_max2, x_gcd, x_gsub, x_sl, x_part, x_nopart, x_int, x_call, x_lst, x_tup, x_not, x_and, x_or, x_andV, x_orV, x_notV, x_ifE, x_eqI, x_neI, x_eqB, x_neB, x_tbm, x_never, x_make, x_meth, x_isII, x_isIC, x_bool1, decide_eq_true_eq, Bool.false_eq_true, if_false, if_true, List.append_nil, List.nil_append, List.cons_append]
  refine take_of (n := 31) hp (by decide) (.lit _ (by decide) (by decide) (by decide)) (by decide) fun kind H1 hp1 k1 _ _ => ?_
  have ho := ho.keep hp k1
  have k := k.after k1
  simp only [x_seq, x_if, x_test, x_B, x_op, x_un, x_varS, x_var0, x_c, x_I0, x_I, x_U, x_bl, x_ret, x_next, x_eqS, x_neS, x_m0, x_m1, x_isStr, x_SM, x_addT, x_slS, x_lenT, x_strI, x_mulS, x_startT, x_findT, x_preT, x_lstT, x_ascT, x_digT, x_jn, x_js0, x_js1, x_isS, x_fmt, x_fmtS, x_divW, x_truK, x_truS, x_raiseT, x_asg, x_name, x_set0, x_setS, x_drop, x_cb, x_cons, x_nil, x_int1, x_abs1, x_max2, x_gcd, x_gsub, x_sl, x_part, x_nopart, x_int, x_call, x_lst, x_tup, x_not, x_and, x_or, x_andV, x_orV, x_notV, x_ifE, x_eqI, x_neI, x_eqB, x_neB, x_tbm, x_never, x_make, x_meth, x_isII, x_isIC, x_bool1, decide_eq_true_eq, Bool.false_eq_true, if_false, if_true, List.append_nil, List.nil_append, List.cons_append]
  refine ite2 (fun _ => ?_) fun _ => ite2 (fun _ => ?_) fun _ => ite2 (fun _ => ?_) fun _ => ?_
  · rw [x_lcR]
    simp only [x_seq, x_if, x_test, x_B, x_op, x_un, x_varS, x_var0, x_c, x_I0, x_I, x_U, x_bl, x_ret, x_next, x_eqS, x_neS, x_m0, x_m1, x_isStr, x_SM, x_addT, x_slS, x_lenT, x_strI, x_mulS, x_startT, x_findT, x_preT, x_lstT, x_ascT, x_digT, x_jn, x_js0, x_js1, x_isS, x_fmt, x_fmtS, x_divW, x_truK, x_truS, x_raiseT, x_asg, x_name, x_set0, x_setS, x_drop, x_cb, x_cons, x_nil, x_int1, x_abs1, x_max2, x_gcd, x_gsub, x_sl, x_part, x_nopart, x_int, x_call, x_lst, x_tup, x_not, x_and, x_or, x_andV, x_orV, x_notV, x_ifE, x_eqI, x_neI, x_eqB, x_neB, x_tbm, x_never, x_make, x_meth, x_isII, x_isIC, x_bool1, decide_eq_true_eq, Bool.false_eq_true, if_false, if_true, List.append_nil, List.nil_append, List.cons_append]
    refine take_of (n := 31) hp1 (by decide) (.lit _ (by decide) (by decide) (by decide)) (by decide) fun n H2 hp2 k2 n0 n1 => ?_
    refine lc_signs n0 (by omega) hp2 (fun j H' B QQ hb hB kk => ?_) fun D' H' ys l h1 e hp3 k3 => join_end (k.after k2) l h1 e hp3 k3
    show tCall spMark [] E0 (tCons (tVar 0) tNil) [some (.ref P), some (.ref o), some (.int kind), some (.int (j : Int))] H' QQ
    simp only [x_seq, x_if, x_test, x_B, x_op, x_un, x_varS, x_var0, x_c, x_I0, x_I, x_U, x_bl, x_ret, x_next, x_eqS, x_neS, x_m0, x_m1, x_isStr, x_SM, x_addT, x_slS, x_lenT, x_strI, x_mulS, x_startT, x_findT, x_preT, x_lstT, x_ascT, x_digT, x_jn, x_js0, x_js1, x_isS, x_fmt, x_fmtS, x_divW, x_truK, x_truS, x_raiseT, x_asg, x_name, x_set0, x_setS, x_drop, x_cb, x_cons, x_nil, x_int1, x_abs1, x_max2, x_gcd, x_gsub, x_sl, x_part, x_nopart, x_int, x_call, x_lst, x_tup, x_not, x_and, x_or, x_andV, x_orV, x_notV, x_ifE, x_eqI, x_neI, x_eqB, x_neB, x_tbm, x_never, x_make, x_meth, x_isII, x_isIC, x_bool1, decide_eq_true_eq, Bool.false_eq_true, if_false, if_true, List.append_nil, List.nil_append, List.cons_append]
    exact ⟨P, B, rfl, hb, hB, kk⟩
  · rw [x_lcR]
    simp only [x_seq, x_if, x_test, x_B, x_op, x_un, x_varS, x_var0, x_c, x_I0, x_I, x_U, x_bl, x_ret, x_next, x_eqS, x_neS, x_m0, x_m1, x_isStr, x_SM, x_addT, x_slS, x_lenT, x_strI, x_mulS, x_startT, x_findT, x_preT, x_lstT, x_ascT, x_digT, x_jn, x_js0, x_js1, x_isS, x_fmt, x_fmtS, x_divW, x_truK, x_truS, x_raiseT, x_asg, x_name, x_set0, x_setS, x_drop, x_cb, x_cons, x_nil, x_int1, x_abs1, x_max2, x_gcd, x_gsub, x_sl, x_part, x_nopart, x_int, x_call, x_lst, x_tup, x_not, x_and, x_or, x_andV, x_orV, x_notV, x_ifE, x_eqI, x_neI, x_eqB, x_neB, x_tbm, x_never, x_make, x_meth, x_isII, x_isIC, x_bool1, decide_eq_true_eq, Bool.false_eq_true, if_false, if_true, List.append_nil, List.nil_append, List.cons_append]
    refine take_of (n := 31) hp1 (by decide) (.lit _ (by decide) (by decide) (by decide)) (by decide) fun n H2 hp2 k2 n0 n1 => ?_
    refine lc_signs n0 (by omega) hp2 (fun j H' B QQ hb hB kk => ?_) fun D' H' ys l h1 e hp3 k3 => join_end (k.after k2) l h1 e hp3 k3
    show tOp rIxS (tC (.str "0123456789-/")) (tCall spTakeB [] E0 (tCons (tVar 0) (tCons (tC (.int 12)) tNil))) [some (.ref P), some (.ref o), some (.int kind), some (.int (j : Int))] H' QQ
    simp only [x_seq, x_if, x_test, x_B, x_op, x_un, x_varS, x_var0, x_c, x_I0, x_I, x_U, x_bl, x_ret, x_next, x_eqS, x_neS, x_m0, x_m1, x_isStr, x_SM, x_addT, x_slS, x_lenT, x_strI, x_mulS, x_startT, x_findT, x_preT, x_lstT, x_ascT, x_digT, x_jn, x_js0, x_js1, x_isS, x_fmt, x_fmtS, x_divW, x_truK, x_truS, x_raiseT, x_asg, x_name, x_set0, x_setS, x_drop, x_cb, x_cons, x_nil, x_int1, x_abs1, x_max2, x_gcd, x_gsub, x_sl, x_part, x_nopart, x_int, x_call, x_lst, x_tup, x_not, x_and, x_or, x_andV, x_orV, x_notV, x_ifE, x_eqI, x_neI, x_eqB, x_neB, x_tbm, x_never, x_make, x_meth, x_isII, x_isIC, x_bool1, decide_eq_true_eq, Bool.false_eq_true, if_false, if_true, List.append_nil, List.nil_append, List.cons_append]
    refine takeB_of (n := 31) hb hB (by decide) (.lit _ (by decide) (by decide) (by decide)) (by decide) fun r H3 hb3 k3 r0 r1 => ?_
    have hl : ((tl "0123456789-/").length : Int) = 12 := by decide +kernel
    have hs : ("0123456789-/" : Str).length ≤ sizeLine := by decide +kernel
    generalize ("0123456789-/" : Str) = M at hl hs ⊢
    obtain ⟨c, hc⟩ := atI_len (l := tl M) (i := r) r0 (by omega)
    rw [x_ixS hs hc]
    exact kk _ _ rfl hb3 k3
  · exact long_of hp1 k
  · exact ⟨P, o, t, b, rfl, hp1, ho, hn, fun y H' l p q => k y H' (by omega) p q⟩
/-- written values as arguments -/
def litA : List V → TA
  | [] => tNil
  | v :: r => tCons (tC v) (litA r)
theorem x_lit {cs : List V} {σ : L2.St} {H : Hp} {QA : List V → Hp → Prop} : litA cs σ H QA = QA cs H := by
  induction cs generalizing QA with
  | nil => rfl
  | cons v r ih =>
    show litA r σ H (fun xs H2 => QA (v :: xs) H2) = _
    rw [ih]
/-- the texts that are nearly numbers -/
def fix1 : List Str := ["", "-", "/", "+1", "-0", "00", "01", "-01", "0/1", "0/2", "-0/1", "1/1", "3/1", "4/2", "-6/4"]
def fix2 : List Str := ["1/0", "0/0", "1/02", "1/-2", "1/+2", " 1", "1 ", "1 /2", "1\n", "1.0", "1e1", "1_0", "1//2"]
def fix3 : List Str := ["1/2/3", "--1"]
def spFixed : Sp := fun vs H Q _ => vs = [] ∧ ∀ (p : Addr) (ys : List Str) (H' : Hp), H' p = some (.lst (ys.map V.str)) → ys.length ≤ 100 → (∀ y ∈ ys, y.length ≤ 100) → Same H H' → Q (.ref p) H'
def t_nfixed (P : Program) (K : PySem.W.Frag) (mg : Str → Option Value) (C Z D BN : Addr) (E : XK) : TS :=
    (tSeq (tAsg (tLst (tCons (tC (.str "")) (tCons (tC (.str "-")) (tCons (tC (.str "/")) (tCons (tC (.str "+1")) (tCons (tC (.str "-0")) (tCons (tC (.str "00")) (tCons (tC (.str "01")) (tCons (tC (.str "-01")) (tCons (tC (.str "0/1")) (tCons (tC (.str "0/2")) (tCons (tC (.str "-0/1")) (tCons (tC (.str "1/1")) (tCons (tC (.str "3/1")) (tCons (tC (.str "4/2")) (tCons (tC (.str "-6/4")) tNil)))))))))))))))) (gName 0))
    (tSeq (tAsg (tOp rCat (tVar 0) (tLst (tCons (tC (.str "1/0")) (tCons (tC (.str "0/0")) (tCons (tC (.str "1/02")) (tCons (tC (.str "1/-2")) (tCons (tC (.str "1/+2")) (tCons (tC (.str " 1")) (tCons (tC (.str "1 ")) (tCons (tC (.str "1 /2")) (tCons (tC (.str "1\n")) (tCons (tC (.str "1.0")) (tCons (tC (.str "1e1")) (tCons (tC (.str "1_0")) (tCons (tC (.str "1//2")) tNil))))))))))))))) (gName 0))
    (tRet (tOp rCat (tVar 0) (tLst (tCons (tC (.str "1/2/3")) (tCons (tC (.str "--1")) tNil)))))))
theorem nfixed_eq {P0 : Program} {K : PySem.W.Frag} {mg : Str → Option Value} {C Z D BN : Addr} {E : XK} : t_nfixed P0 K mg C Z D BN E =
    tSeq (tAsg (tLst (litA (fix1.map V.str))) (gName 0)) (tSeq (tAsg (tOp rCat (tVar 0) (tLst (litA (fix2.map V.str)))) (gName 0)) (tRet (tOp rCat (tVar 0) (tLst (litA (fix3.map V.str)))))) := rfl
theorem pure_nfixed {P0 : Program} {K : PySem.W.Frag} {mg : Str → Option Value} {C Z D BN : Addr} (vs : List V) (H : Hp) (Q : VK) (E : XK) (h : spFixed vs H Q E) : t_nfixed P0 K mg C Z D BN E { nx := fun _ H' => Q .non H', rt := Q } (start ["found"] vs) H := by
  obtain ⟨rfl, k⟩ := h
  have es : L2.start ["found"] [] = [none] := rfl
  rw [es, nfixed_eq]
  have l1 : fix1.length = 15 := rfl
  have l2 : fix2.length = 13 := rfl
  have l3 : fix3.length = 2 := rfl
  have s1 : ∀ y ∈ fix1, y.length ≤ 100 := by decide +kernel
  have s2 : ∀ y ∈ fix2, y.length ≤ 100 := by decide +kernel
  have s3 : ∀ y ∈ fix3, y.length ≤ 100 := by decide +kernel
  generalize fix1 = F1 at l1 s1 ⊢
  generalize fix2 = F2 at l2 s2 ⊢
  generalize fix3 = F3 at l3 s3 ⊢
  have big : ∀ n : Nat, n ≤ 6000 → n ≤ sizeLine := fun n hn => Nat.le_trans hn (by decide)
  rw [x_seq, x_asg, x_lst, x_lit]
  refine ⟨big _ (by rw [List.length_map]; omega), fun p hp => ?_⟩
  rw [x_name, x_set0]
  dsimp only
  rw [x_seq, x_asg, x_op, x_var0, x_lst, x_lit]
  refine ⟨big _ (by rw [List.length_map]; omega), fun q hq => ?_⟩
  have sm : Same H (upd (upd H p (.lst (F1.map V.str))) q (.lst (F2.map V.str))) := Same.new' (Same.new hp) hq
  have npq : p ≠ q := fun e => by
    rw [e, upd_same] at hq
    cases hq
  have e1 : (upd (upd H p (.lst (F1.map V.str))) q (.lst (F2.map V.str))) p = some (.lst (F1.map V.str)) := by rw [upd_ne npq, upd_same]
  have e2 : (upd (upd H p (.lst (F1.map V.str))) q (.lst (F2.map V.str))) q = some (.lst (F2.map V.str)) := upd_same
  generalize (upd (upd H p (.lst (F1.map V.str))) q (.lst (F2.map V.str))) = H1 at sm e1 e2 ⊢
  rw [x_cat e1 e2 (by rw [List.length_map, List.length_map]; exact big _ (by omega))]
  intro r hr
  rw [x_name, x_set0]
  dsimp only
  rw [x_ret, x_op, x_var0, x_lst, x_lit]
  refine ⟨big _ (by rw [List.length_map]; omega), fun t ht => ?_⟩
  have sm2 : Same H1 (upd (upd H1 r (.lst (F1.map V.str ++ F2.map V.str))) t (.lst (F3.map V.str))) := Same.new' (Same.new hr) ht
  have nrt : r ≠ t := fun e => by
    rw [e, upd_same] at ht
    cases ht
  have e3 : (upd (upd H1 r (.lst (F1.map V.str ++ F2.map V.str))) t (.lst (F3.map V.str))) r = some (.lst (F1.map V.str ++ F2.map V.str)) := by rw [upd_ne nrt, upd_same]
  have e4 : (upd (upd H1 r (.lst (F1.map V.str ++ F2.map V.str))) t (.lst (F3.map V.str))) t = some (.lst (F3.map V.str)) := upd_same
  generalize (upd (upd H1 r (.lst (F1.map V.str ++ F2.map V.str))) t (.lst (F3.map V.str))) = H2 at sm2 e3 e4 ⊢
  rw [x_cat e3 e4 (by rw [List.length_append, List.length_map, List.length_map, List.length_map]; exact big _ (by omega))]
  intro u hu
  refine k u (F1 ++ F2 ++ F3) _ (by rw [upd_same, List.map_append, List.map_append]) (by rw [List.length_append, List.length_append]; omega) (fun y hy => ?_) (Same.new' (sm.trans sm2) hu)
  rcases List.mem_append.mp hy with z | z
  · rcases List.mem_append.mp z with z | z
    · exact s1 y z
    · exact s2 y z
  · exact s3 y z
end SpX

set_option Elab.async false
set_option linter.all false
set_option maxRecDepth 100000
set_option maxHeartbeats 2000000
/-! Ints written in blocks. -/
namespace SpX
open PySem PySem.Spec NumText L2
open TL (tl)
theorem take_snoc' {α : Type} {l : List α} {i : Nat} {z : α} (h : l[i]? = some z) : l.take (i + 1) = l.take i ++ [z] := by
  rw [List.take_add_one, h]
  rfl
/-- for each item a new pair, its two parts one behind the other -/
theorem lc2_pairs {K : PySem.W.Frag} {tv te1 : TE} {σ : L2.St} {H : Hp} {Q : VK} {i j : Nat} {p : Addr} {bs : List V} (f g : V → V) (hv : ∀ Q : VK, tv σ H Q = Q (.ref p) H) (h : H p = some (.lst bs)) (hl : bs.length < 2000)
    (w1 : ∀ x, wipe ((wipe σ [i, j]).set i (some x)) [i, j] = wipe σ [i, j]) (w2 : ∀ x y, wipe ((wipe ((wipe σ [i, j]).set i (some x)) [j]).set j (some y)) [j] = wipe ((wipe σ [i, j]).set i (some x)) [j])
    (ht : ∀ (x y : V) (H' : Hp) (QQ : VK), QQ y H' → tVar j ((wipe ((wipe σ [i, j]).set i (some x)) [j]).set j (some y)) H' QQ)
    (hb : ∀ (m : Nat) (x : V) (H' : Hp) (QQ : VK), bs[m]? = some x → Same H H' → (∀ a, H' a = none → QQ (.ref a) (upd H' a (.tup [f x, g x]))) → te1 ((wipe σ [i, j]).set i (some x)) H' QQ)
    (k : ∀ (D : Addr) (H' : Hp), Same H H' → H' D = some (.lst (bs.flatMap fun x => [f x, g x])) → Q (.ref D) H') : tLc2 (iList K tv) (gName i) tYes (iTup K te1) (gName j) tYes (tVar j) [i, j] [j] σ H Q := by
  show tv σ H _
  rw [hv]
  refine ⟨p, rfl, ⟨_, SqL.at h⟩, fun D hD => ⟨fun m r H' => r = bs.length - m ∧ m ≤ bs.length ∧ Same H H' ∧ H' D = some (.lst ((bs.take m).flatMap fun x => [f x, g x])), ⟨bs.length, by simp, Nat.zero_le _, Same.new hD, by rw [upd_same]; rfl⟩, ?_⟩⟩
  rintro m r H' ⟨rfl, hm, sm, eD⟩
  have hp' := sm _ _ h
  by_cases hlt : m < bs.length
  · refine .inr ⟨⟨bs, bs[m], SqL.at hp', by simp [hlt]⟩, fun H2 => Same H H2 ∧ H2 D = some (.lst ((bs.take (m + 1)).flatMap fun x => [f x, g x])), fun H2 p' => ⟨bs.length - (m + 1), by omega, rfl, hlt, p'⟩, fun x H2 y => ?_⟩
    obtain ⟨e, y⟩ := y
    subst e
    have hx := y bs (SqL.at hp')
    refine ⟨w1 _, ?_⟩
    unfold tYes
    dsimp only
    rw [if_pos rfl]
    show te1 _ _ _
    refine hb m x H2 _ hx sm fun a ha => ⟨a, rfl, ⟨_, SqT.at upd_same⟩, ?_⟩
    have naD : D ≠ a := fun e => by
      rw [e, ha] at eD
      cases eD
    have tk : bs.take (m + 1) = bs.take m ++ [x] := take_snoc' hx
    refine ⟨fun n r H4 => r = 2 - n ∧ n ≤ 2 ∧ Same H H4 ∧ H4 a = some (.tup [f x, g x]) ∧ H4 D = some (.lst ((bs.take m).flatMap (fun x => [f x, g x]) ++ [f x, g x].take n)), ⟨2, rfl, by decide, Same.new' sm ha, upd_same, by rw [upd_ne naD, List.take_zero, List.append_nil]; exact eD⟩, ?_⟩
    rintro n r H4 ⟨rfl, hn, s4, ea, eD4⟩
    by_cases hlk : n < 2
    · refine .inr ⟨⟨[f x, g x], [f x, g x][n], SqT.at ea, by simp [hlk]⟩, fun H5 => Same H H5 ∧ H5 a = some (.tup [f x, g x]) ∧ H5 D = some (.lst ((bs.take m).flatMap (fun x => [f x, g x]) ++ [f x, g x].take (n + 1))), fun H5 p' => ⟨2 - (n + 1), by omega, rfl, hlk, p'⟩, fun y H5 z => ?_⟩
      obtain ⟨e, z⟩ := z
      subst e
      have hy := z [f x, g x] (SqT.at ea)
      refine ⟨w2 _ _, ?_⟩
      show if true = true then _ else _
      rw [if_pos rfl]
      refine ht _ _ _ _ ⟨_, eD4, ?_, ?_, ?_, ?_⟩
      · rw [List.length_append, List.length_flatMap]
        have h1 : (List.map (fun a => [f a, g a].length) (bs.take m)).sum ≤ 2 * bs.length := by
          have : ∀ l : List V, (List.map (fun a => [f a, g a].length) l).sum = 2 * l.length := fun l => by
            induction l with
            | nil => rfl
            | cons a r ih =>
              rw [List.map_cons, List.sum_cons, ih, List.length_cons, List.length_cons, List.length_cons, List.length_nil]
              omega
          rw [this, List.length_take]
          omega
        have h2 : ([f x, g x].take n).length ≤ 2 := by
          rw [List.length_take]
          simp
          omega
        exact Nat.lt_of_lt_of_le (show _ < 5000 by omega) (by decide)
      · intro b o e
        rw [upd_ne (ne_of_none e hD)]
        exact s4 _ _ e
      · rw [upd_ne (Ne.symm naD)]
        exact ea
      · rw [upd_same, List.append_assoc, take_snoc' hy]
    · have e : n = 2 := by omega
      subst e
      refine .inl ⟨⟨[f x, g x], SqT.at ea, by simp⟩, s4, ?_⟩
      rw [eD4, tk, List.flatMap_append]
      simp
  · have e : m = bs.length := by omega
    subst e
    refine .inl ⟨⟨bs, SqL.at hp', Nat.le_refl _⟩, k D _ sm ?_⟩
    rw [eD, List.take_length]
end SpX

set_option Elab.async false
set_option linter.all false
set_option maxRecDepth 100000
set_option maxHeartbeats 2000000
set_option exponentiation.threshold 20000
/-! Ints written in blocks. -/
namespace SpX
open PySem PySem.Spec NumText L2
open TL (tl)
/-! ### the numbers behind -/
def val (P : Nat) (bs : List Nat) : Nat := bs.foldl (fun a b => a * P + b) 0
theorem val_split {p : Nat} (bs : List Nat) : val p (bs.flatMap fun b => [b / p, b % p]) = val (p * p) bs := by
  have : ∀ (l : List Nat) (a : Nat), (l.flatMap fun b => [b / p, b % p]).foldl (fun a b => a * p + b) a = l.foldl (fun a b => a * (p * p) + b) a := fun l => by
    induction l with
    | nil => intro a; rfl
    | cons b r ih =>
      intro a
      have e : [b / p, b % p].foldl (fun a b => a * p + b) a = a * (p * p) + b := by
        show (a * p + b / p) * p + b % p = a * (p * p) + b
        have h := Nat.div_add_mod b p
        rw [Nat.add_mul, Nat.mul_assoc, Nat.mul_comm (b / p) p]
        omega
      rw [List.flatMap_cons, List.foldl_append, e, ih, List.foldl_cons]
  exact this bs 0
theorem val_pad {k : Nat} (hk : 0 < k) (bs : List Nat) (h : ∀ b ∈ bs, b < 10 ^ k) : digitsVal (bs.map (padD k)).flatten = val (10 ^ k) bs := by
  refine snoc_rec (P := fun bs => (∀ b ∈ bs, b < 10 ^ k) → digitsVal (bs.map (padD k)).flatten = val (10 ^ k) bs) (fun _ => rfl) (fun l b ih h => ?_) bs h
  have h1 := ih fun c hc => h c (List.mem_append_left _ hc)
  have h2 := h b (List.mem_append_right _ (List.mem_singleton.mpr rfl))
  unfold val at h1 ⊢
  rw [List.map_append, List.flatten_append, List.foldl_append, List.foldl_cons, List.foldl_nil, digitsVal_append, h1]
  simp only [List.map_cons, List.map_nil, List.flatten_cons, List.flatten_nil, List.append_nil]
  rw [padD_val, padD_len hk h2]
theorem pad_dig {k : Nat} (bs : List Nat) : AllDigits (bs.map (padD k)).flatten := fun c hc => by
  obtain ⟨l, hl, hcl⟩ := List.mem_flatten.mp hc
  obtain ⟨b, _, rfl⟩ := List.mem_map.mp hl
  exact padD_dig k b c hcl
theorem drop_num {l : List Nat} (h : AllDigits l) (h1 : 1 ≤ digitsVal l) : l.dropWhile (· == 48) = numD (digitsVal l) := by
  have e := List.takeWhile_append_dropWhile (p := (· == 48)) (l := l)
  have hz : l.takeWhile (· == 48) = List.replicate (l.takeWhile (· == 48)).length 48 := by
    refine List.eq_replicate_of_mem fun b hb => ?_
    have : ∀ m : List Nat, ∀ b ∈ m.takeWhile (· == 48), b = 48 := fun m => by
      induction m with
      | nil => intro b hb; cases hb
      | cons c r ih =>
        intro b hb
        rw [List.takeWhile_cons] at hb
        by_cases hc : (c == 48) = true
        · rw [if_pos hc] at hb
          rcases List.mem_cons.mp hb with q | q
          · rw [q]
            simpa using hc
          · exact ih b q
        · rw [if_neg hc] at hb
          cases hb
    exact this l b hb
  have hv : digitsVal l = digitsVal (l.dropWhile (· == 48)) := by
    conv => lhs; rw [← e, hz]
    exact zeros_val _ _
  have hd : ∀ m : List Nat, (m.dropWhile (· == 48)).head? ≠ some 48 := fun m => by
    induction m with
    | nil => simp
    | cons c r ih =>
      rw [List.dropWhile_cons]
      by_cases hc : (c == 48) = true
      · rw [if_pos hc]
        exact ih
      · rw [if_neg hc, List.head?_cons]
        intro q
        rw [Option.some.inj q] at hc
        exact hc rfl
  rw [hv]
  refine (canon_num ⟨fun c hc => h c ?_, fun q => ?_, fun _ => hd l⟩).symm
  · rw [← e]
    exact List.mem_append_right _ hc
  · rw [hv, q] at h1
    exact absurd h1 (by decide)
/-- 10 ^ 64, its square, .. -/
def bp (i : Nat) : Nat := (10 ^ 64) ^ (2 ^ i)
theorem bp_succ (i : Nat) : bp (i + 1) = bp i * bp i := by
  unfold bp
  generalize 10 ^ 64 = T
  rw [Nat.pow_succ, Nat.pow_mul, Nat.pow_two]
theorem bp_pos (i : Nat) : 0 < bp i := Nat.pow_pos (by decide)
theorem bp_ge (i : Nat) : 2 ^ (212 * 2 ^ i) ≤ bp i := by
  unfold bp
  rw [Nat.pow_mul]
  exact Nat.pow_le_pow_left (by decide +kernel) _
/-- the powers up to a number -/
def PwOf (n k : Nat) : Prop := (∀ i, i < k → bp i ≤ n) ∧ n < bp k
theorem pw_small {n i : Nat} (hn : n < 2 ^ 17999) (h : bp i ≤ n) : i ≤ 6 := by
  have h1 := Nat.lt_of_le_of_lt (Nat.le_trans (bp_ge i) h) hn
  have h2 : 212 * 2 ^ i < 17999 := (Nat.pow_lt_pow_iff_right (by decide)).mp h1
  by_cases h7 : 7 ≤ i
  · have : 2 ^ 7 ≤ 2 ^ i := Nat.pow_le_pow_right (by decide) h7
    omega
  · omega
theorem log_bp {i : Nat} (h : i ≤ 5) : (bp i).log2 < 9000 := by
  have : ∀ i : Fin 6, (bp i.val).log2 < 9000 := by decide +kernel
  exact this ⟨i, by omega⟩
theorem div_bp {x i : Nat} (hx : x < 2 ^ 17999) (h : i ≤ 6) : CDivP (x : Int) ((bp i : Nat) : Int) := by
  refine ⟨by have := bp_pos i; omega, ?_⟩
  by_cases h5 : i ≤ 5
  · exact PyProof.noPylong_of_log2 (by rw [Int.natAbs_natCast]; exact log_bp h5)
  · have e : i = 6 := by omega
    subst e
    unfold Builtin.divisionGoesByPylong
    have hl : (bp 6).log2 / 30 + 1 = 454 := by decide +kernel
    have h0 : ¬ (((bp 6 : Nat) : Int) == 0) = true := by
      have := bp_pos 6
      simp
      omega
    have hy : (if (((bp 6 : Nat) : Int) == 0) = true then 0 else (((bp 6 : Nat) : Int)).natAbs.log2 / 30 + 1) = 454 := by
      rw [if_neg h0, Int.natAbs_natCast, hl]
    have hx2 : (if ((x : Int) == 0) = true then 0 else (x : Int).natAbs.log2 / 30 + 1) ≤ 600 := by
      rw [Int.natAbs_natCast]
      by_cases hx0 : x = 0
      · rw [hx0]
        decide
      · rw [if_neg (by simpa using hx0)]
        have : x.log2 < 17999 := (Nat.log2_lt hx0).mpr hx
        omega
    dsimp only
    have : ¬ ((if ((x : Int) == 0) = true then 0 else (x : Int).natAbs.log2 / 30 + 1) > (if (((bp 6 : Nat) : Int) == 0) = true then 0 else (((bp 6 : Nat) : Int)).natAbs.log2 / 30 + 1) + 150) := by omega
    rw [decide_eq_false this, Bool.and_false]
end SpX

set_option Elab.async false
set_option linter.all false
set_option maxRecDepth 100000
set_option maxHeartbeats 2000000
set_option exponentiation.threshold 20000
/-! Ints written in blocks: the defs. -/
namespace SpX
open PySem PySem.Spec NumText L2
open TL (tl)
def bps (k : Nat) : List Nat := (List.range k).map bp
def natL (bs : List Nat) : List V := bs.map fun b => V.int ((b : Nat) : Int)
def spPowers : Sp := fun vs H Q _ => ∃ n : Nat, vs = [.int (n : Int)] ∧ n < 2 ^ 17999 ∧ ∀ (p : Addr) (k : Nat) (H' : Hp), PwOf n k → H' p = some (.lst (natL (bps k))) → Same H H' → Q (.ref p) H'
theorem bps_succ (k : Nat) : natL (bps (k + 1)) = natL (bps k) ++ [.int ((bp k : Nat) : Int)] := by
  unfold natL bps
  rw [List.range_succ, List.map_append, List.map_append]
  rfl
theorem bps_len (k : Nat) : (natL (bps k)).length = k := by
  unfold natL bps
  rw [List.length_map, List.length_map, List.length_range]
theorem bp0 : (10 : Int) ^ 64 = ((bp 0 : Nat) : Int) := by decide +kernel
def t_npowers (P : Program) (K : PySem.W.Frag) (mg : Str → Option Value) (C Z D BN : Addr) (E : XK) : TS :=
    (tSeq (tAsg (tC (.int (10 ^ 64))) (gName 1))
    (tSeq (tAsg (tLst tNil) (gName 2))
    (tSeq (tWhile (tTest (tOp (rI0 fun i j => .bl (decide (i ≤ j))) (tVar 1) (tVar 0))) ((tSeq (tDrop (tBM K "list" rAppend (tVar 2) (tCons (tVar 1) tNil)))
    (tAsg (tOp (rI IntMulOk fun i j => .int (i * j)) (tVar 1) (tVar 1)) (gName 1)))))
    (tRet (tVar 2)))))
theorem pure_npowers {P0 : Program} {K : PySem.W.Frag} {mg : Str → Option Value} {C Z D BN : Addr} (vs : List V) (H : Hp) (Q : VK) (E : XK) (h : spPowers vs H Q E) : t_npowers P0 K mg C Z D BN E { nx := fun _ H' => Q .non H', rt := Q } (start ["size", "power", "powers"] vs) H := by
  obtain ⟨n, rfl, hn, k⟩ := h
  show t_npowers P0 K mg C Z D BN E _ [some (.int (n : Int)), none, none] H
  unfold t_npowers
  simp only [x_seq, x_if, x_test, x_B, x_op, x_un, x_varS, x_var0, x_c, x_I0, x_I, x_U, x_bl, x_ret, x_next, x_eqS, x_neS, x_m0, x_m1, x_isStr, x_SM, x_addT, x_slS, x_lenT, x_strI, x_mulS, x_startT, x_findT, x_preT, x_lstT, x_ascT, x_digT, x_jn, x_js0, x_js1, x_isS, x_fmt, x_fmtS, x_divW, x_truK, x_truS, x_raiseT, x_asg, x_name, x_set0, x_setS, x_drop, x_cb, x_cons, x_nil, x_int1, x_abs1, x_max2, x_gcd, x_gsub, x_sl, x_part, x_nopart, x_int, x_call, x_lst, x_tup, x_not, x_and, x_or, x_andV, x_orV, x_notV, x_ifE, x_eqI, x_neI, x_eqB, x_neB, x_tbm, x_never, x_make, x_meth, x_isII, x_isIC, x_bool1, decide_eq_true_eq, Bool.false_eq_true, if_false, if_true, List.append_nil, List.nil_append, List.cons_append, bp0]
  refine ⟨by decide, fun p hp => ?_⟩
  refine while_by (fun σ H' => ∃ i : Nat, (∀ j, j < i → bp j ≤ n) ∧ i ≤ 7 ∧ σ = [some (.int (n : Int)), some (.int ((bp i : Nat) : Int)), some (.ref p)] ∧ H' p = some (.lst (natL (bps i))) ∧ Same H H')
    (fun σ H' => 20 - (match H' p with | some (.lst xs) => xs.length | _ => 0)) ⟨0, fun j hj => absurd hj (by omega), by decide, rfl, by rw [upd_same]; rfl, Same.new hp⟩ ?_ ?_
  · rintro σ H' ⟨i, hi, hi7, rfl, e, s⟩
    simp only [x_seq, x_if, x_test, x_B, x_op, x_un, x_varS, x_var0, x_c, x_I0, x_I, x_U, x_bl, x_ret, x_next, x_eqS, x_neS, x_m0, x_m1, x_isStr, x_SM, x_addT, x_slS, x_lenT, x_strI, x_mulS, x_startT, x_findT, x_preT, x_lstT, x_ascT, x_digT, x_jn, x_js0, x_js1, x_isS, x_fmt, x_fmtS, x_divW, x_truK, x_truS, x_raiseT, x_asg, x_name, x_set0, x_setS, x_drop, x_cb, x_cons, x_nil, x_int1, x_abs1, x_max2, x_gcd, x_gsub, x_sl, x_part, x_nopart, x_int, x_call, x_lst, x_tup, x_not, x_and, x_or, x_andV, x_orV, x_notV, x_ifE, x_eqI, x_neI, x_eqB, x_neB, x_tbm, x_never, x_make, x_meth, x_isII, x_isIC, x_bool1, decide_eq_true_eq, Bool.false_eq_true, if_false, if_true, List.append_nil, List.nil_append, List.cons_append]
    refine ite2 (fun hle => ?_) fun hle => ?_
    · have hle' : bp i ≤ n := by omega
      have h6 := pw_small hn hle'
      have bd : Bd 17999 ((bp i : Nat) : Int) := by
        unfold Bd
        rw [Int.natAbs_natCast]
        exact Nat.lt_of_le_of_lt hle' hn
      refine ⟨ty_lst e, ?_⟩
      rw [x_append e (by rw [bps_len]; exact Nat.lt_of_lt_of_le (show i < 1000 by omega) (by decide))]
      try simp only [x_seq, x_if, x_test, x_B, x_op, x_un, x_varS, x_var0, x_c, x_I0, x_I, x_U, x_bl, x_ret, x_next, x_eqS, x_neS, x_m0, x_m1, x_isStr, x_SM, x_addT, x_slS, x_lenT, x_strI, x_mulS, x_startT, x_findT, x_preT, x_lstT, x_ascT, x_digT, x_jn, x_js0, x_js1, x_isS, x_fmt, x_fmtS, x_divW, x_truK, x_truS, x_raiseT, x_asg, x_name, x_set0, x_setS, x_drop, x_cb, x_cons, x_nil, x_int1, x_abs1, x_max2, x_gcd, x_gsub, x_sl, x_part, x_nopart, x_int, x_call, x_lst, x_tup, x_not, x_and, x_or, x_andV, x_orV, x_notV, x_ifE, x_eqI, x_neI, x_eqB, x_neB, x_tbm, x_never, x_make, x_meth, x_isII, x_isIC, x_bool1, decide_eq_true_eq, Bool.false_eq_true, if_false, if_true, List.append_nil, List.nil_append, List.cons_append]
      refine ⟨bd.ok bd (by decide) (by decide) (by decide), ⟨i + 1, fun j hj => ?_, by omega, ?_, by rw [upd_same, bps_succ], fun b o eb => ?_⟩, ?_⟩
      · by_cases hj2 : j < i
        · exact hi j hj2
        · have : j = i := by omega
          rw [this]
          exact hle'
      · rw [bp_succ]
        rfl
      · rw [upd_ne (ne_of_none eb hp)]
        exact s b o eb
      · rw [upd_same, e]
        dsimp only
        rw [List.length_append, bps_len]
        simp
        omega
    · try simp only [x_seq, x_if, x_test, x_B, x_op, x_un, x_varS, x_var0, x_c, x_I0, x_I, x_U, x_bl, x_ret, x_next, x_eqS, x_neS, x_m0, x_m1, x_isStr, x_SM, x_addT, x_slS, x_lenT, x_strI, x_mulS, x_startT, x_findT, x_preT, x_lstT, x_ascT, x_digT, x_jn, x_js0, x_js1, x_isS, x_fmt, x_fmtS, x_divW, x_truK, x_truS, x_raiseT, x_asg, x_name, x_set0, x_setS, x_drop, x_cb, x_cons, x_nil, x_int1, x_abs1, x_max2, x_gcd, x_gsub, x_sl, x_part, x_nopart, x_int, x_call, x_lst, x_tup, x_not, x_and, x_or, x_andV, x_orV, x_notV, x_ifE, x_eqI, x_neI, x_eqB, x_neB, x_tbm, x_never, x_make, x_meth, x_isII, x_isIC, x_bool1, decide_eq_true_eq, Bool.false_eq_true, if_false, if_true, List.append_nil, List.nil_append, List.cons_append]
      exact k p i H' ⟨hi, by omega⟩ e s
  · rintro σ H' R R' hR ⟨v, e1, w, e2, i, j, h1, h2, hq⟩
    first
      | exact ⟨v, e1, w, e2, i, j, h1, h2, by obtain ⟨k, h3, h4⟩ := hq; exact ⟨k, h3, hR _ _ h4⟩⟩
      | exact ⟨v, e1, w, e2, i, j, h1, h2, by obtain ⟨t, k, h3, h4⟩ := hq; exact ⟨t, k, h3, hR _ _ h4⟩⟩
end SpX

set_option Elab.async false
set_option linter.all false
set_option maxRecDepth 100000
set_option maxHeartbeats 2000000
set_option exponentiation.threshold 20000
/-! Ints written in blocks: the writing. -/
namespace SpX
open PySem PySem.Spec NumText L2
open TL (tl)
theorem lc_mapL {K : PySem.W.Frag} {tv te : TE} {σ : L2.St} {H : Hp} {Q : VK} {p : Addr} {xs : List V} {i : Nat} (f : V → V) (hv : ∀ Q : VK, tv σ H Q = Q (.ref p) H) (h : H p = some (.lst xs)) (hl : xs.length < 2000)
    (he : ∀ (x : V) (H' : Hp) (QQ : VK), x ∈ xs → Same H H' → QQ (f x) H' → te ((wipe σ [i]).set i (some x)) H' QQ) (k : ∀ (D : Addr) (H' : Hp), Same H H' → H' D = some (.lst (xs.map f)) → Q (.ref D) H') : tLc (iList K tv) (gName i) tYes te [i] σ H Q := by
  show tv σ H _
  rw [hv]
  refine ⟨p, rfl, ⟨_, SqL.at h⟩, fun D hD => lc_list (K := K) (a := p) (xs := xs) (fun j H' => Same H H' ∧ H' D = some (.lst ((xs.take j).map f))) ⟨Same.new hD, upd_same⟩ (fun j H' _ s => SqL.at (s.1 _ _ h)) (fun j x H' hj s => ?_) fun H' s => k D H' s.1 (by rw [s.2, List.take_length])⟩
  refine ⟨wipe1n, ?_⟩
  unfold tYes
  dsimp only
  rw [if_pos rfl]
  refine he x H' _ (List.mem_of_getElem? hj) s.1 ⟨_, s.2, ?_, ?_, ?_⟩
  · rw [List.length_map, List.length_take]
    exact Nat.lt_of_lt_of_le (show _ < 5000 by omega) (by decide)
  · intro b o e
    rw [upd_ne (ne_of_none e hD)]
    exact s.1 _ _ e
  · rw [upd_same, take_snoc' hj, List.map_append]
    rfl
theorem x_forL {K : PySem.W.Frag} {te : TE} {g : TG} {tb : TS} {D : Ends} {σ : L2.St} {H : Hp} : tFor (iList K te) g tb D σ H = te σ H (fun v H1 => tFor (iList K (tC v)) g tb D σ H1) := rfl
theorem x_revL {K : PySem.W.Frag} {te : TE} {σ : L2.St} {H : Hp} {Q : VK} : tRevL K te σ H Q = te σ H (fun x H1 => ∃ a xs, x = .ref a ∧ SqL K H1 a xs ∧ ∀ p, H1 p = none → Q (.ref p) (upd H1 p (.lst xs.reverse))) := rfl
/-- an int's text, of any length -/
def spWint : Sp := fun vs H Q _ => ∃ n : Int, vs = [.int n] ∧ Bd 17999 n ∧ ∀ (y : Str) (H' : Hp), tl y = intD n → Same H H' → Q (.str y) H'
theorem rev_at {k j : Nat} {x : V} (h : (natL (bps k)).reverse[j]? = some x) : j < k ∧ x = .int ((bp (k - 1 - j) : Nat) : Int) := by
  have hj : j < k := by
    have := (List.getElem?_eq_some_iff.mp h).1
    rw [List.length_reverse, bps_len] at this
    exact this
  refine ⟨hj, ?_⟩
  rw [List.getElem?_reverse (by rw [bps_len]; exact hj), bps_len] at h
  unfold natL bps at h
  rw [List.getElem?_map, List.getElem?_map, List.getElem?_range (by omega)] at h
  exact (Option.some.inj h).symm
def divV (p : Nat) : V → V | .int z => .int (z / (p : Int)) | v => v
def modV (p : Nat) : V → V | .int z => .int (z % (p : Int)) | v => v
theorem natL_split (p : Nat) (bs : List Nat) : (natL bs).flatMap (fun x => [divV p x, modV p x]) = natL (bs.flatMap fun b => [b / p, b % p]) := by
  induction bs with
  | nil => rfl
  | cons b r ih =>
    have e1 : (natL (b :: r)) = .int (b : Int) :: natL r := rfl
    rw [e1, List.flatMap_cons, ih, List.flatMap_cons]
    rfl
theorem natL_at {bs : List Nat} {m : Nat} {x : V} (h : (natL bs)[m]? = some x) : ∃ b, b ∈ bs ∧ x = .int ((b : Nat) : Int) := by
  unfold natL at h
  rw [List.getElem?_map] at h
  cases e : bs[m]? with
  | none => rw [e] at h; cases h
  | some b => rw [e] at h; exact ⟨b, List.mem_of_getElem? e, (Option.some.inj h).symm⟩
theorem natL_mem {bs : List Nat} {x : V} (h : x ∈ natL bs) : ∃ b, b ∈ bs ∧ x = .int ((b : Nat) : Int) := by
  obtain ⟨b, hb, rfl⟩ := List.mem_map.mp h
  exact ⟨b, hb, rfl⟩
/-- a block's text -/
def zf (b : Nat) : Str := Txt.zfill (Str.ofString (toString ((b : Nat) : Int))) 64
def zfV : V → V | .int z => .str (Txt.zfill (Str.ofString (toString z)) 64) | v => v
theorem tl_zf (b : Nat) : tl (zf b) = padD 64 b := by
  unfold zf
  have e : tl (Str.ofString (toString ((b : Nat) : Int))) = numD b := by rw [tl_int, intD_nat]
  have h := tl_zfill (x := Str.ofString (toString ((b : Nat) : Int))) (by rw [e]; exact num_dig b) 64
  rw [e] at h
  exact h
theorem natL_zf (bs : List Nat) : (natL bs).map zfV = (bs.map zf).map V.str := by
  unfold natL
  rw [List.map_map, List.map_map]
  rfl
theorem flat2 {p : Nat} {bs : List Nat} {c : Nat} (h : c ∈ bs.flatMap fun b => [b / p, b % p]) : ∃ b, b ∈ bs ∧ (c = b / p ∨ c = b % p) := by
  obtain ⟨b, hb, hc⟩ := List.mem_flatMap.mp h
  refine ⟨b, hb, ?_⟩
  simpa using hc
theorem flat2_len {p : Nat} (bs : List Nat) : (bs.flatMap fun b => [b / p, b % p]).length = 2 * bs.length := by
  induction bs with
  | nil => rfl
  | cons b r ih =>
    rw [List.flatMap_cons, List.length_append, ih, List.length_cons, List.length_cons, List.length_cons, List.length_nil]
    omega
def t_nwint (P : Program) (K : PySem.W.Frag) (mg : Str → Option Value) (C Z D BN : Addr) (E : XK) : TS :=
    (tSeq (tIfS (tTest (tOp (rI0 fun i j => .bl (decide (i < j))) (tCB rAbs1 (tCons (tVar 0) tNil)) (tC (.int (10 ^ 64))))) (tRet (tCB rStrI (tCons (tVar 0) tNil))) tNext)
    (tSeq (tAsg (tLst (tCons (tCB rAbs1 (tCons (tVar 0) tNil)) tNil)) (gName 1))
    (tSeq (tFor (iList K (tRevL K (tCall spPowers [] E0 (tCons (tCB rAbs1 (tCons (tVar 0) tNil)) tNil)))) (gName 2) ((tAsg (tLc2 (iList K (tVar 1)) (gName 4) tYes (iTup K (tCB rDivW (tCons (tVar 4) (tCons (tVar 2) tNil)))) (gName 5) tYes (tVar 5) [4, 5] [5]) (gName 1))))
    (tSeq (tAsg (tM1 rLstT (tM1 (rJoinT K) (tC (.str "")) (tLc (iList K (tVar 1)) (gName 4) tYes (tM1 rZfT (tCB rStrI (tCons (tVar 4) tNil)) (tC (.int 64))) [4])) (tC (.str "0"))) (gName 3))
    (tRet (tIf (tTest (tOp (rI0 fun i j => .bl (decide (i < j))) (tVar 0) (tC (.int 0)))) (tJn ((tC (.str "-")) :: (tFmt (tVar 3)) :: [])) (tVar 3)))))))
theorem pure_nwint {P0 : Program} {K : PySem.W.Frag} {mg : Str → Option Value} {C Z D BN : Addr} (vs : List V) (H : Hp) (Q : VK) (E : XK) (h : spWint vs H Q E) : t_nwint P0 K mg C Z D BN E { nx := fun _ H' => Q .non H', rt := Q } (start ["number", "blocks", "power", "digits", "block", "half"] vs) H := by
  obtain ⟨n, rfl, hn, k⟩ := h
  show t_nwint P0 K mg C Z D BN E _ [some (.int n), none, none, none, none, none] H
  have big : ∀ n : Nat, n ≤ 100000 → n ≤ sizeLine := fun n hn => Nat.le_trans hn (by decide)
  unfold t_nwint
  rw [x_seq]
  simp only [x_if, x_test, x_B, x_op, x_un, x_varS, x_var0, x_c, x_I0, x_I, x_U, x_bl, x_ret, x_next, x_eqS, x_neS, x_m0, x_m1, x_isStr, x_SM, x_addT, x_slS, x_lenT, x_strI, x_mulS, x_startT, x_findT, x_preT, x_lstT, x_ascT, x_digT, x_jn, x_js0, x_js1, x_isS, x_fmt, x_fmtS, x_divW, x_truK, x_truS, x_raiseT, x_asg, x_name, x_set0, x_setS, x_drop, x_cb, x_cons, x_nil, x_int1, x_abs1, x_max2, x_gcd, x_gsub, x_sl, x_part, x_nopart, x_int, x_call, x_lst, x_tup, x_not, x_and, x_or, x_andV, x_orV, x_notV, x_ifE, x_eqI, x_neI, x_eqB, x_neB, x_tbm, x_never, x_make, x_meth, x_isII, x_isIC, x_bool1, decide_eq_true_eq, Bool.false_eq_true, if_false, if_true, List.append_nil, List.nil_append, List.cons_append, abs_if, bp0]
  have h900 : bp 0 ≤ 2 ^ 900 := by decide +kernel
  have hb0 : bp 0 = 10 ^ 64 := by decide +kernel
  generalize bp 0 = b0 at h900 hb0 ⊢
  refine ite2 (fun hlt => ?_) fun hge => ?_
  · have h1 := h900
    refine ⟨log1920 ?_, k _ _ (tl_int n) fun _ _ e => e⟩
    exact Nat.lt_of_lt_of_le (Int.ofNat_lt.mp hlt) h1
  have hm : n.natAbs < 2 ^ 17999 := hn
  have hm1 : b0 ≤ n.natAbs := Int.ofNat_le.mp (Int.not_lt.mp hge)
  rw [x_seq]
  simp only [x_if, x_test, x_B, x_op, x_un, x_varS, x_var0, x_c, x_I0, x_I, x_U, x_bl, x_ret, x_next, x_eqS, x_neS, x_m0, x_m1, x_isStr, x_SM, x_addT, x_slS, x_lenT, x_strI, x_mulS, x_startT, x_findT, x_preT, x_lstT, x_ascT, x_digT, x_jn, x_js0, x_js1, x_isS, x_fmt, x_fmtS, x_divW, x_truK, x_truS, x_raiseT, x_asg, x_name, x_set0, x_setS, x_drop, x_cb, x_cons, x_nil, x_int1, x_abs1, x_max2, x_gcd, x_gsub, x_sl, x_part, x_nopart, x_int, x_call, x_lst, x_tup, x_not, x_and, x_or, x_andV, x_orV, x_notV, x_ifE, x_eqI, x_neI, x_eqB, x_neB, x_tbm, x_never, x_make, x_meth, x_isII, x_isIC, x_bool1, decide_eq_true_eq, Bool.false_eq_true, if_false, if_true, List.append_nil, List.nil_append, List.cons_append, abs_if]
  refine ⟨big _ (by show 1 ≤ 100000; decide), fun p hp => ?_⟩
  have s1 : Same H (upd H p (.lst [.int (n.natAbs : Int)])) := Same.new hp
  have e1 : (upd H p (.lst [.int (n.natAbs : Int)])) p = some (.lst (natL [n.natAbs])) := upd_same
  generalize (upd H p (.lst [.int (n.natAbs : Int)])) = H1 at s1 e1 ⊢
  generalize hnm : n.natAbs = m at hm hm1 e1 ⊢
  rw [x_seq, x_forL]
  simp only [x_if, x_test, x_B, x_op, x_un, x_varS, x_var0, x_c, x_I0, x_I, x_U, x_bl, x_ret, x_next, x_eqS, x_neS, x_m0, x_m1, x_isStr, x_SM, x_addT, x_slS, x_lenT, x_strI, x_mulS, x_startT, x_findT, x_preT, x_lstT, x_ascT, x_digT, x_jn, x_js0, x_js1, x_isS, x_fmt, x_fmtS, x_divW, x_truK, x_truS, x_raiseT, x_asg, x_name, x_set0, x_setS, x_drop, x_cb, x_cons, x_nil, x_int1, x_abs1, x_max2, x_gcd, x_gsub, x_sl, x_part, x_nopart, x_int, x_call, x_lst, x_tup, x_not, x_and, x_or, x_andV, x_orV, x_notV, x_ifE, x_eqI, x_neI, x_eqB, x_neB, x_tbm, x_never, x_make, x_meth, x_isII, x_isIC, x_bool1, decide_eq_true_eq, Bool.false_eq_true, if_false, if_true, List.append_nil, List.nil_append, List.cons_append, x_revL, abs_if]
  rw [hnm]
  refine ⟨m, rfl, hm, fun pp kk H2 hpw e2 s2 => ⟨pp, _, rfl, SqL.at e2, fun q hq => ?_⟩⟩
  have s3 : Same H2 (upd H2 q (.lst (natL (bps kk)).reverse)) := Same.new hq
  have e3 : (upd H2 q (.lst (natL (bps kk)).reverse)) q = some (.lst (natL (bps kk)).reverse) := upd_same
  have e1 := s3 _ _ (s2 _ _ e1)
  generalize (upd H2 q (.lst (natL (bps kk)).reverse)) = H3 at s3 e3 e1 ⊢
  have sH := (s1.trans s2).trans s3
  clear s1 s2 s3 e2
  have hk7 : kk ≤ 7 := by
    by_cases h : 8 ≤ kk
    · exact absurd (pw_small hm (hpw.1 7 (by omega))) (by decide)
    · omega
  refine for_lstV (a := q) (xs := (natL (bps kk)).reverse) (fun Q => rfl) (fun j σ H' => j ≤ kk ∧ ∃ (b : Addr) (bs : List Nat) (u : Option V), σ = [some (.int n), some (.ref b), u, none, none, none] ∧ H' b = some (.lst (natL bs)) ∧ bs.length = 2 ^ j ∧
      (∀ x ∈ bs, x < bp (kk - j) ∧ x < 2 ^ 17999) ∧ val (bp (kk - j)) bs = m ∧ Same H3 H')
    ⟨Nat.zero_le _, p, [m], none, rfl, e1, rfl, fun x hx => by rw [List.mem_singleton.mp hx]; exact ⟨hpw.2, hm⟩, by unfold val; simp, fun _ _ e => e⟩ (fun j σ H' _ hh => by obtain ⟨_, _, _, _, _, _, _, _, _, s⟩ := hh; exact s _ _ e3) ?_ ?_
  · rintro j x σ H' hx ⟨_, b, bs, u, rfl, eb, hbl, hbs, hv, s⟩
    obtain ⟨hj, rfl⟩ := rev_at hx
    have hi : kk - j = (kk - 1 - j) + 1 := by omega
    have hj6 : 2 ^ j ≤ 64 := by
      have : 2 ^ j ≤ 2 ^ 6 := Nat.pow_le_pow_right (by decide) (by omega)
      omega
    rw [hi, bp_succ] at hv hbs
    have hi6 : kk - 1 - j ≤ 6 := by omega
    have hip := bp_pos (kk - 1 - j)
    generalize hP : kk - 1 - j = i at *
    simp only [x_if, x_test, x_B, x_op, x_un, x_varS, x_var0, x_c, x_I0, x_I, x_U, x_bl, x_ret, x_next, x_eqS, x_neS, x_m0, x_m1, x_isStr, x_SM, x_addT, x_slS, x_lenT, x_strI, x_mulS, x_startT, x_findT, x_preT, x_lstT, x_ascT, x_digT, x_jn, x_js0, x_js1, x_isS, x_fmt, x_fmtS, x_divW, x_truK, x_truS, x_raiseT, x_asg, x_name, x_set0, x_setS, x_drop, x_cb, x_cons, x_nil, x_int1, x_abs1, x_max2, x_gcd, x_gsub, x_sl, x_part, x_nopart, x_int, x_call, x_lst, x_tup, x_not, x_and, x_or, x_andV, x_orV, x_notV, x_ifE, x_eqI, x_neI, x_eqB, x_neB, x_tbm, x_never, x_make, x_meth, x_isII, x_isIC, x_bool1, decide_eq_true_eq, Bool.false_eq_true, if_false, if_true, List.append_nil, List.nil_append, List.cons_append]
    refine lc2_pairs (divV (bp i)) (modV (bp i)) (fun Q => by simp only [x_if, x_test, x_B, x_op, x_un, x_varS, x_var0, x_c, x_I0, x_I, x_U, x_bl, x_ret, x_next, x_eqS, x_neS, x_m0, x_m1, x_isStr, x_SM, x_addT, x_slS, x_lenT, x_strI, x_mulS, x_startT, x_findT, x_preT, x_lstT, x_ascT, x_digT, x_jn, x_js0, x_js1, x_isS, x_fmt, x_fmtS, x_divW, x_truK, x_truS, x_raiseT, x_asg, x_name, x_set0, x_setS, x_drop, x_cb, x_cons, x_nil, x_int1, x_abs1, x_max2, x_gcd, x_gsub, x_sl, x_part, x_nopart, x_int, x_call, x_lst, x_tup, x_not, x_and, x_or, x_andV, x_orV, x_notV, x_ifE, x_eqI, x_neI, x_eqB, x_neB, x_tbm, x_never, x_make, x_meth, x_isII, x_isIC, x_bool1, decide_eq_true_eq, Bool.false_eq_true, if_false, if_true, List.append_nil, List.nil_append, List.cons_append]) eb (by unfold natL; rw [List.length_map, hbl]; omega) (fun x => rfl) (fun x y => rfl) (fun x y H' QQ q => ⟨y, rfl, q⟩) (fun mm x H'' QQ hx s2 kk2 => ?_) fun D H'' s2 eD => ?_
    · obtain ⟨c, hc, rfl⟩ := natL_at hx
      show tCB rDivW (tCons (tVar 4) (tCons (tVar 2) tNil)) [some (.int n), some (.ref b), some (.int ((bp i : Nat) : Int)), none, some (.int (c : Int)), none] H'' QQ
      simp only [x_if, x_test, x_B, x_op, x_un, x_varS, x_var0, x_c, x_I0, x_I, x_U, x_bl, x_ret, x_next, x_eqS, x_neS, x_m0, x_m1, x_isStr, x_SM, x_addT, x_slS, x_lenT, x_strI, x_mulS, x_startT, x_findT, x_preT, x_lstT, x_ascT, x_digT, x_jn, x_js0, x_js1, x_isS, x_fmt, x_fmtS, x_divW, x_truK, x_truS, x_raiseT, x_asg, x_name, x_set0, x_setS, x_drop, x_cb, x_cons, x_nil, x_int1, x_abs1, x_max2, x_gcd, x_gsub, x_sl, x_part, x_nopart, x_int, x_call, x_lst, x_tup, x_not, x_and, x_or, x_andV, x_orV, x_notV, x_ifE, x_eqI, x_neI, x_eqB, x_neB, x_tbm, x_never, x_make, x_meth, x_isII, x_isIC, x_bool1, decide_eq_true_eq, Bool.false_eq_true, if_false, if_true, List.append_nil, List.nil_append, List.cons_append]
      exact ⟨div_bp (hbs c hc).2 hi6, kk2⟩
    · rw [natL_split] at eD
      refine ⟨by omega, D, _, _, rfl, eD, ?_, fun c hc => ?_, ?_, s.trans s2⟩
      · rw [flat2_len, hbl, Nat.pow_succ]
        omega
      · have e : kk - (j + 1) = i := by omega
        rw [e]
        obtain ⟨y, hy, h | h⟩ := flat2 hc
        · rw [h]
          exact ⟨Nat.div_lt_of_lt_mul (hbs y hy).1, Nat.lt_of_le_of_lt (Nat.div_le_self _ _) (hbs y hy).2⟩
        · rw [h]
          exact ⟨Nat.mod_lt _ hip, Nat.lt_of_le_of_lt (Nat.mod_le _ _) (hbs y hy).2⟩
      · have e : kk - (j + 1) = i := by omega
        rw [e, val_split]
        exact hv
  · rintro σ H' ⟨_, b, bs, u, rfl, eb, hbl, hbs, hv, s⟩
    have hlen : (natL (bps kk)).reverse.length = kk := by rw [List.length_reverse, bps_len]
    rw [hlen] at hbl hbs hv
    rw [Nat.sub_self] at hbs hv
    have hl7 : 2 ^ kk ≤ 128 := by
      have : 2 ^ kk ≤ 2 ^ 7 := Nat.pow_le_pow_right (by decide) hk7
      omega
    have hb00 : bp 0 = 10 ^ 64 := by decide +kernel
    rw [hb00] at hbs hv
    rw [hb0] at hm1
    dsimp only
    rw [x_seq]
    simp only [x_if, x_test, x_B, x_op, x_un, x_varS, x_var0, x_c, x_I0, x_I, x_U, x_bl, x_ret, x_next, x_eqS, x_neS, x_m0, x_m1, x_isStr, x_SM, x_addT, x_slS, x_lenT, x_strI, x_mulS, x_startT, x_findT, x_preT, x_lstT, x_ascT, x_digT, x_jn, x_js0, x_js1, x_isS, x_fmt, x_fmtS, x_divW, x_truK, x_truS, x_raiseT, x_asg, x_name, x_set0, x_setS, x_drop, x_cb, x_cons, x_nil, x_int1, x_abs1, x_max2, x_gcd, x_gsub, x_sl, x_part, x_nopart, x_int, x_call, x_lst, x_tup, x_not, x_and, x_or, x_andV, x_orV, x_notV, x_ifE, x_eqI, x_neI, x_eqB, x_neB, x_tbm, x_never, x_make, x_meth, x_isII, x_isIC, x_bool1, decide_eq_true_eq, Bool.false_eq_true, if_false, if_true, List.append_nil, List.nil_append, List.cons_append]
    refine lc_mapL zfV (fun Q => by simp only [x_if, x_test, x_B, x_op, x_un, x_varS, x_var0, x_c, x_I0, x_I, x_U, x_bl, x_ret, x_next, x_eqS, x_neS, x_m0, x_m1, x_isStr, x_SM, x_addT, x_slS, x_lenT, x_strI, x_mulS, x_startT, x_findT, x_preT, x_lstT, x_ascT, x_digT, x_jn, x_js0, x_js1, x_isS, x_fmt, x_fmtS, x_divW, x_truK, x_truS, x_raiseT, x_asg, x_name, x_set0, x_setS, x_drop, x_cb, x_cons, x_nil, x_int1, x_abs1, x_max2, x_gcd, x_gsub, x_sl, x_part, x_nopart, x_int, x_call, x_lst, x_tup, x_not, x_and, x_or, x_andV, x_orV, x_notV, x_ifE, x_eqI, x_neI, x_eqB, x_neB, x_tbm, x_never, x_make, x_meth, x_isII, x_isIC, x_bool1, decide_eq_true_eq, Bool.false_eq_true, if_false, if_true, List.append_nil, List.nil_append, List.cons_append]) eb (by unfold natL; rw [List.length_map, hbl]; omega) (fun x H'' QQ hx s2 kk2 => ?_) fun D H'' s2 eD => ?_
    · obtain ⟨c, hc, rfl⟩ := natL_mem hx
      show tM1 rZfT (tCB rStrI (tCons (tVar 4) tNil)) (tC (.int 64)) [some (.int n), some (.ref b), u, none, some (.int (c : Int)), none] H'' QQ
      simp only [x_if, x_test, x_B, x_op, x_un, x_varS, x_var0, x_c, x_I0, x_I, x_U, x_bl, x_ret, x_next, x_eqS, x_neS, x_m0, x_m1, x_isStr, x_SM, x_addT, x_slS, x_lenT, x_strI, x_mulS, x_startT, x_findT, x_preT, x_lstT, x_ascT, x_digT, x_jn, x_js0, x_js1, x_isS, x_fmt, x_fmtS, x_divW, x_truK, x_truS, x_raiseT, x_asg, x_name, x_set0, x_setS, x_drop, x_cb, x_cons, x_nil, x_int1, x_abs1, x_max2, x_gcd, x_gsub, x_sl, x_part, x_nopart, x_int, x_call, x_lst, x_tup, x_not, x_and, x_or, x_andV, x_orV, x_notV, x_ifE, x_eqI, x_neI, x_eqB, x_neB, x_tbm, x_never, x_make, x_meth, x_isII, x_isIC, x_bool1, decide_eq_true_eq, Bool.false_eq_true, if_false, if_true, List.append_nil, List.nil_append, List.cons_append]
      refine ⟨log1920 ?_, ?_⟩
      · have h1 : 10 ^ 64 ≤ 2 ^ 900 := by decide +kernel
        unfold Bd
        rw [Int.natAbs_natCast]
        exact Nat.lt_of_lt_of_le (hbs c hc).1 h1
      · rw [x_zfT rfl]
        exact kk2
    · rw [natL_zf] at eD
      have sum_len : ∀ l : List Nat, (∀ x ∈ l, x < 10 ^ 64) → ((l.map zf).map (·.length)).sum = 64 * l.length := fun l hl => by
        induction l with
        | nil => rfl
        | cons a r ih =>
          rw [List.map_cons, List.map_cons, List.sum_cons, ih (fun x hx => hl x (List.mem_cons_of_mem _ hx)), List.length_cons, tl_len, tl_zf, padD_len (by decide) (hl a List.mem_cons_self)]
          omega
      have hsum := sum_len bs fun x hx => (hbs x hx).1
      have l0 : ("" : Str).length = 0 := by decide +kernel
      refine ⟨_, D, bs.map zf, rfl, rfl, .inl (SqL.at eD), by rw [hsum, hbl, l0, Nat.mul_zero]; omega, ?_⟩
      have hj : tl (Txt.join "" (bs.map zf)) = (bs.map (padD 64)).flatten := by
        rw [empty_lit, tl_join0, List.map_map]
        congr 1
        exact List.map_congr_left fun b _ => tl_zf b
      have hjl : (Txt.join "" (bs.map zf)).length ≤ 10000 := by
        rw [tl_len, hj, List.length_flatten]
        have : ((bs.map (padD 64)).map List.length) = ((bs.map zf).map (·.length)) := by
          rw [List.map_map, List.map_map]
          refine List.map_congr_left fun b _ => ?_
          show (padD 64 b).length = (zf b).length
          rw [tl_len, tl_zf]
        rw [this, hsum, hbl]
        omega
      have hd : tl (Txt.lstripChars (Txt.join "" (bs.map zf)) "0") = numD m := by
        rw [tl_lstrip0, hj]
        have hval := val_pad (k := 64) (by decide) bs fun x hx => (hbs x hx).1
        rw [hv] at hval
        rw [drop_num (pad_dig bs) (by rw [hval]; exact Nat.le_trans (Nat.pow_pos (by decide)) hm1), hval]
      have hdl : (Txt.lstripChars (Txt.join "" (bs.map zf)) "0").length ≤ 10000 := by
        rw [tl_len, hd]
        have := (List.dropWhile_suffix (l := tl (Txt.join "" (bs.map zf))) (· == 48)).length_le
        rw [← tl_lstrip0, hd, ← tl_len] at this
        omega
      refine ⟨⟨_, rfl⟩, ?_⟩
      rw [x_lstT]
      refine ⟨big _ (by omega), ?_⟩
      generalize Txt.lstripChars (Txt.join "" (bs.map zf)) "0" = W at hd hdl ⊢
      have sA : Same H H'' := (sH.trans s).trans s2
      refine ite2 (fun hneg => ?_) fun hneg => ?_
      · refine ⟨by decide +kernel, .inl ⟨_, rfl, big _ (by omega), ?_, k _ _ ?_ sA⟩⟩
        · rw [add_len, add_len]
          have : ("-" : Str).length = 1 := by decide +kernel
          have : Str.empty.length = 0 := rfl
          exact big _ (by omega)
        · rw [TL.tl_append, TL.tl_append, tl_empty, tl_minus, hd]
          unfold intD
          rw [if_pos hneg, hnm]
          rfl
      · refine k _ _ ?_ sA
        rw [hd]
        unfold intD
        rw [if_neg hneg, hnm]
        rfl
end SpX

set_option Elab.async false
set_option linter.all false
set_option maxRecDepth 100000
set_option maxHeartbeats 2000000
set_option exponentiation.threshold 20000
/-! Law k01: the program's own reading and writing. -/
namespace SpX
open PySem PySem.Spec NumText L2
open TL (tl)
def spCount : Sp := fun vs H Q _ => ∃ a : Str, vs = [.str a] ∧ a.length ≤ sizeLine ∧ Q (.bl (cnt (tl a))) H
theorem count_of {a : Str} {H : Hp} {Q : VK} {E : XK} (h : a.length ≤ sizeLine) (k : Q (.bl (cnt (tl a))) H) : spCount [.str a] H Q E := ⟨a, rfl, h, k⟩
def t_ncount (P : Program) (K : PySem.W.Frag) (mg : Str → Option Value) (C Z D BN : Addr) (E : XK) : TS :=
    (tRet (tAndV (tOp (rI0 fun i j => .bl (decide (i ≤ j))) (tCB rLenT (tCons (tVar 0) tNil)) (tC (.int 60))) (tAndV (tM0 rAscT (tVar 0)) (tM0 rDigT (tVar 0)))))
theorem pure_ncount {P0 : Program} {K : PySem.W.Frag} {mg : Str → Option Value} {C Z D BN : Addr} (vs : List V) (H : Hp) (Q : VK) (E : XK) (h : spCount vs H Q E) : t_ncount P0 K mg C Z D BN E { nx := fun _ H' => Q .non H', rt := Q } (start ["text"] vs) H := by
  obtain ⟨a, rfl, hz, k⟩ := h
  show t_ncount P0 K mg C Z D BN E _ [some (.str a)] H
  unfold t_ncount
  simp only [x_seq, x_if, x_test, x_B, x_op, x_un, x_varS, x_var0, x_c, x_I0, x_I, x_U, x_bl, x_ret, x_next, x_eqS, x_neS, x_m0, x_m1, x_isStr, x_SM, x_addT, x_slS, x_lenT, x_strI, x_mulS, x_startT, x_findT, x_preT, x_lstT, x_ascT, x_digT, x_jn, x_js0, x_js1, x_isS, x_fmt, x_fmtS, x_divW, x_truK, x_truS, x_raiseT, x_asg, x_name, x_set0, x_setS, x_drop, x_cb, x_cons, x_nil, x_int1, x_abs1, x_max2, x_gcd, x_gsub, x_sl, x_part, x_nopart, x_int, x_call, x_lst, x_tup, x_not, x_and, x_or, x_andV, x_orV, x_notV, x_ifE, x_eqI, x_neI, x_eqB, x_neB, x_tbm, x_never, x_make, x_meth, x_isII, x_isIC, x_bool1, decide_eq_true_eq, Bool.false_eq_true, if_false, if_true, List.append_nil, List.nil_append, List.cons_append]
  obtain ⟨d1, d2⟩ := isdigit_ascii a
  unfold cnt at k
  have hl := tl_len a
  refine ⟨hz, ite2 (fun h1 => ?_) fun h1 => ?_⟩
  · rw [decide_eq_true (by omega), Bool.true_and] at k
    cases ha : Txt.isascii a with
    | true =>
      rw [if_pos rfl, d1 ha]
      exact k
    | false =>
      rw [if_neg (by decide)]
      rw [d2 ha] at k
      exact k
  · rw [decide_eq_false (by omega), Bool.false_and] at k
    exact k
def spStr (C : Addr) : Sp := fun vs H Q _ => ∃ (p : Addr) (t b : Int), vs = [.ref p] ∧ RatAt C H p t b ∧ 0 < b ∧ Bd 17999 t ∧ Bd 17999 b ∧ ∀ (y : Str) (H' : Hp), tl y = written t b → Same H H' → Q (.str y) H'
theorem wint_of {n : Int} {H : Hp} {Q : VK} {E : XK} (h : Bd 17999 n) (k : ∀ (y : Str) (H' : Hp), tl y = intD n → Same H H' → Q (.str y) H') : spWint [.int n] H Q E := ⟨n, rfl, h, k⟩
theorem intD_big {a : Int} (h : Bd 17999 a) : (intD a).length ≤ 6001 := intD_len2 (k := 6000) h (by decide) (by decide)
theorem fmt_str {y : Str} {H : Hp} {R : Str → Hp → Prop} (h : y.length ≤ sizeLine) (k : R y H) : (∃ z : Str, V.str y = .str z ∧ z.length ≤ sizeLine ∧ R z H) ∨ ∃ i : Int, V.str y = .int i ∧ i.natAbs.log2 < 1920 ∧ R (toString i) H := .inl ⟨y, rfl, h, k⟩
def t_nstr (P : Program) (K : PySem.W.Frag) (mg : Str → Option Value) (C Z D BN : Addr) (E : XK) : TS :=
    (tSeq (tIfS (tTest (tOp rEq (tUn (rFld C "bottom") (tVar 0)) (tC (.int 1)))) (tRet (tFmt (tCall spWint [] E0 (tCons (tUn (rFld C "top") (tVar 0)) tNil)))) tNext)
    (tRet (tJn ((tFmt (tCall spWint [] E0 (tCons (tUn (rFld C "top") (tVar 0)) tNil))) :: (tC (.str "/")) :: (tFmt (tCall spWint [] E0 (tCons (tUn (rFld C "bottom") (tVar 0)) tNil))) :: []))))
theorem pure_nstr {P0 : Program} {K : PySem.W.Frag} {mg : Str → Option Value} {C Z D BN : Addr} (vs : List V) (H : Hp) (Q : VK) (E : XK) (h : spStr C vs H Q E) : t_nstr P0 K mg C Z D BN E { nx := fun _ H' => Q .non H', rt := Q } (start ["self"] vs) H := by
  obtain ⟨p, t, b, rfl, ⟨dx, hp⟩, hb, bt, bb, k⟩ := h
  show t_nstr P0 K mg C Z D BN E _ [some (.ref p)] H
  have big : ∀ n : Nat, n ≤ 100000 → n ≤ sizeLine := fun n hn => Nat.le_trans hn (by decide)
  have lt := intD_big bt
  have lb := intD_big bb
  unfold t_nstr
  simp only [x_seq, x_if, x_test, x_B, x_op, x_un, x_varS, x_var0, x_c, x_I0, x_I, x_U, x_bl, x_ret, x_next, x_eqS, x_neS, x_m0, x_m1, x_isStr, x_SM, x_addT, x_slS, x_lenT, x_strI, x_mulS, x_startT, x_findT, x_preT, x_lstT, x_ascT, x_digT, x_jn, x_js0, x_js1, x_isS, x_fmt, x_fmtS, x_divW, x_truK, x_truS, x_raiseT, x_asg, x_name, x_set0, x_setS, x_drop, x_cb, x_cons, x_nil, x_int1, x_abs1, x_max2, x_gcd, x_gsub, x_sl, x_part, x_nopart, x_int, x_call, x_lst, x_tup, x_not, x_and, x_or, x_andV, x_orV, x_notV, x_ifE, x_eqI, x_neI, x_eqB, x_neB, x_tbm, x_never, x_make, x_meth, x_isII, x_isIC, x_bool1, decide_eq_true_eq, Bool.false_eq_true, if_false, if_true, List.append_nil, List.nil_append, List.cons_append, x_bot hp, x_top hp]
  refine ite2 (fun h1 => ?_) fun h1 => ?_
  · subst h1
    refine wint_of bt fun y H1 hy s1 => .inl ⟨y, rfl, big _ (by rw [tl_len, hy]; omega), k y H1 (by rw [hy, written_1]) s1⟩
  · refine wint_of bt fun y H1 hy s1 => .inl ⟨y, rfl, big _ (by rw [tl_len, hy]; omega), ?_⟩
    have hp1 := s1 _ _ hp
    have ly : y.length ≤ 6001 := by
      rw [tl_len, hy]
      exact lt
    have l_s : ("/" : Str).length = 1 := by decide +kernel
    have l_e : Str.empty.length = 0 := rfl
    simp only [x_seq, x_if, x_test, x_B, x_op, x_un, x_varS, x_var0, x_c, x_I0, x_I, x_U, x_bl, x_ret, x_next, x_eqS, x_neS, x_m0, x_m1, x_isStr, x_SM, x_addT, x_slS, x_lenT, x_strI, x_mulS, x_startT, x_findT, x_preT, x_lstT, x_ascT, x_digT, x_jn, x_js0, x_js1, x_isS, x_fmt, x_fmtS, x_divW, x_truK, x_truS, x_raiseT, x_asg, x_name, x_set0, x_setS, x_drop, x_cb, x_cons, x_nil, x_int1, x_abs1, x_max2, x_gcd, x_gsub, x_sl, x_part, x_nopart, x_int, x_call, x_lst, x_tup, x_not, x_and, x_or, x_andV, x_orV, x_notV, x_ifE, x_eqI, x_neI, x_eqB, x_neB, x_tbm, x_never, x_make, x_meth, x_isII, x_isIC, x_bool1, decide_eq_true_eq, Bool.false_eq_true, if_false, if_true, List.append_nil, List.nil_append, List.cons_append, x_bot hp1]
    refine ⟨big _ (by rw [add_len]; omega), big _ (by rw [add_len, add_len]; omega), wint_of bb fun z H2 hz s2 => .inl ⟨z, rfl, big _ (by rw [tl_len, hz]; omega), big _ ?_, k _ H2 ?_ (s1.trans s2)⟩⟩
    · rw [add_len, add_len, add_len, tl_len z, hz]
      omega
    · rw [TL.tl_append, TL.tl_append, TL.tl_append, tl_empty, hy, tl_slash, hz, written_n h1, int_pos hb, List.nil_append, List.append_assoc]
      rfl
theorem make_at {C Z p dx : Addr} {H : Hp} {Q : Hp → Prop} {E : XK} {x y : Int} (bx : Bd 8000 x) (by' : Bd 8000 y) (hy : y ≠ 0) (np : H p = none) (nd : H dx = none) (ne : dx ≠ p) (k : ∀ H' n d, RatAt C H' p n d → Norm n d x y → Same H H' → Q H') :
    spInit C Z [.ref p, .int x, .int y] (upd (upd H dx (.own p)) p (.ins C dx [])) (fun v H2 => v = .non ∧ Q H2) E := by
  refine ⟨p, dx, x, y, rfl, upd_same, bx, by', fun e => absurd e hy, fun _ t b hn => ⟨rfl, ?_⟩⟩
  refine k _ t b ⟨dx, upd_same⟩ hn fun c o e => ?_
  rw [upd_ne (ne_of_none e np), upd_ne (ne_of_none e np), upd_ne (ne_of_none e nd)]
  exact e
/-- the number that the text is, or the refusal -/
def spRead (C BN : Addr) : Sp := fun vs H Q E => ∃ a : Str, vs = [.str a] ∧ a.length ≤ sizeLine ∧ match numOf (tl a) with
  | some (t, b) => ∀ (r : Addr) (H' : Hp), RatAt C H' r t b → Same H H' → Q (.ref r) H'
  | none => ∀ (d : Addr) (H' : Hp), H' d = some (.xd [("text", .str a)]) → Same H H' → E (.ref BN) (some d) H'
theorem x_ownStr {C p dx : Addr} {fs : List (Str × V)} {sp : Sp} {E : XK} {H : Hp} {Q : VK} (h : H p = some (.ins C dx fs)) : rOwnStr C sp E [.ref p] H Q = sp [.ref p] H (fun v H' => ∃ y : Str, v = .str y ∧ Q v H') E := propext (Iff.intro
  (fun ⟨_, _, _, e1, _, q⟩ => by cases e1; exact q) (fun q => ⟨_, _, _, rfl, h, q⟩))
theorem slash_len' : (("/" : Str).length == 0) = false := by decide +kernel
theorem x_par {a : Str} {H : Hp} {Q : VK} : rParT (.str a) [.str "/"] H Q = (a.length ≤ sizeLine ∧ ∀ p, H p = none → Q (.ref p) (upd H p (.tup [.str (Txt.partition a "/").1, .str (Txt.partition a "/").2.1, .str (Txt.partition a "/").2.2]))) := x_parT slash_len'
theorem x_tup3 {K : PySem.W.Frag} {p : Addr} {u v w : V} {i j k : Nat} {σ : L2.St} {H : Hp} {Q : L2.St → Hp → Prop} (h : H p = some (.tup [u, v, w])) (k1 : Q (((σ.set i (some u)).set j (some v)).set k (some w)) H) : gTup K 3 (gCons (gName i) (gCons (gName j) (gCons (gName k) gNil))) (.ref p) σ H Q :=
  ⟨p, _, rfl, SqT.at h, rfl, _, _, rfl, _, _, rfl, _, _, rfl, rfl, k1⟩
theorem cnt_digits {l : List Nat} (h : cnt l = true) : AllDigits l ∧ l ≠ [] ∧ l.length ≤ 60 := by
  obtain ⟨h1, h2, h3⟩ := cnt_iff.mp h
  exact ⟨h3, h2, h1⟩
theorem int_cnt {x : Str} {H : Hp} {Q : VK} (h : cnt (tl x) = true) : rIntT [.str x] H Q = Q (.int ((digitsVal (tl x) : Nat) : Int)) H := by
  obtain ⟨h1, h2, h3⟩ := cnt_digits h
  exact x_intT (int_digits h1 h2 (by omega)) (by rw [tl_len]; omega)
def t_nread_2 (P : Program) (K : PySem.W.Frag) (mg : Str → Option Value) (C Z D BN : Addr) (E : XK) : TS :=
    (tSeq (tIfS (tOr (tNot (tB (tCall spCount [] E0 (tCons (tVar 3) tNil)))) (tOr (tNot (tB (tCall spCount [] E0 (tCons (tVar 5) tNil)))) (tTest (tOp rEq (tCB rIntT (tCons (tVar 5) tNil)) (tC (.int 0)))))) (tRaiseT P K mg D BN (fun cls d _ H => E cls d H) (tVar 0)) tNext)
    (tSeq (tAsg (tMake C (spInit C Z) [] E (tCons (tCB rIntT (tCons (tVar 3) tNil)) (tCons (tCB rIntT (tCons (tVar 5) tNil)) tNil))) (gName 1))
    (tSeq (tAsg (tIf (tB (tM1 rStartT (tVar 0) (tC (.str "-")))) (tUn (rOwnU C (spUn C (fun t => -t)) E0) (tVar 1)) (tVar 1)) (gName 2))
    (tSeq (tIfS (tTest (tOp rNe (tCB (rOwnStr C (spStr C) E0) (tCons (tVar 2) tNil)) (tVar 0))) (tRaiseT P K mg D BN (fun cls d _ H => E cls d H) (tVar 0)) tNext)
    (tRet (tVar 2))))))
def t_nread (P : Program) (K : PySem.W.Frag) (mg : Str → Option Value) (C Z D BN : Addr) (E : XK) : TS :=
    (tSeq (tAsg (tM1 rParT (tM1 rPreT (tVar 0) (tC (.str "-"))) (tC (.str "/"))) (gTup K 3 (gCons (gName 3) (gCons (gName 4) (gCons (gName 5) gNil)))))
    (tSeq (tIfS (tNot (tTruK K (tVar 4))) (tAsg (tC (.str "1")) (gName 5)) tNext)
    (tSeq (tIfS (tOr (tNot (tB (tCall spCount [] E0 (tCons (tVar 3) tNil)))) (tOr (tNot (tB (tCall spCount [] E0 (tCons (tVar 5) tNil)))) (tTest (tOp rEq (tCB rIntT (tCons (tVar 5) tNil)) (tC (.int 0)))))) (tRaiseT P K mg D BN (fun cls d _ H => E cls d H) (tVar 0)) tNext)
    (tSeq (tAsg (tMake C (spInit C Z) [] E (tCons (tCB rIntT (tCons (tVar 3) tNil)) (tCons (tCB rIntT (tCons (tVar 5) tNil)) tNil))) (gName 1))
    (tSeq (tAsg (tIf (tB (tM1 rStartT (tVar 0) (tC (.str "-")))) (tUn (rOwnU C (spUn C (fun t => -t)) E0) (tVar 1)) (tVar 1)) (gName 2))
    (tSeq (tIfS (tTest (tOp rNe (tCB (rOwnStr C (spStr C) E0) (tCons (tVar 2) tNil)) (tVar 0))) (tRaiseT P K mg D BN (fun cls d _ H => E cls d H) (tVar 0)) tNext)
    (tRet (tVar 2))))))))
theorem pure_nread {P0 : Program} {K : PySem.W.Frag} {mg : Str → Option Value} {C Z D BN fI : Addr} (TE : TxtE P0 K mg D BN fI) (vs : List V) (H : Hp) (Q : VK) (E : XK) (h : spRead C BN vs H Q E) : t_nread P0 K mg C Z D BN E { nx := fun _ H' => Q .non H', rt := Q } (start ["text", "size", "number", "top", "slash", "bottom"] vs) H := by
  obtain ⟨a, rfl, hz, k⟩ := h
  show t_nread P0 K mg C Z D BN E _ [some (.str a), none, none, none, none, none] H
  have raise : ∀ H1, Same H H1 → numOf (tl a) = none → rTail P0 K mg D BN (fun cls d H' => E cls d H') (.str a) H1 := fun H1 s e => by
    rw [e] at k
    exact tail_of TE fun d hd => k d _ upd_same (s.trans (Same.new hd))
  -- behind the parts
  have rest : ∀ (A S B : Str) (H1 : Hp), Same H H1 → tl A = partA (tl a) → tl B = partB (tl a) → A.length ≤ sizeLine → B.length ≤ sizeLine →
      t_nread_2 P0 K mg C Z D BN E { nx := fun _ H' => Q .non H', rt := Q } [some (.str a), none, none, some (.str A), some (.str S), some (.str B)] H1 := by
    intro A S B H1 s1 hA hB lA lB
    unfold t_nread_2
    simp only [x_seq, x_if, x_test, x_B, x_op, x_un, x_varS, x_var0, x_c, x_I0, x_I, x_U, x_bl, x_ret, x_next, x_eqS, x_neS, x_m0, x_m1, x_isStr, x_SM, x_addT, x_slS, x_lenT, x_strI, x_mulS, x_startT, x_findT, x_preT, x_lstT, x_ascT, x_digT, x_jn, x_js0, x_js1, x_isS, x_fmt, x_fmtS, x_divW, x_truK, x_truS, x_raiseT, x_asg, x_name, x_set0, x_setS, x_drop, x_cb, x_cons, x_nil, x_int1, x_abs1, x_max2, x_gcd, x_gsub, x_sl, x_part, x_nopart, x_int, x_call, x_lst, x_tup, x_not, x_and, x_or, x_andV, x_orV, x_notV, x_ifE, x_eqI, x_neI, x_eqB, x_neB, x_tbm, x_never, x_make, x_meth, x_isII, x_isIC, x_bool1, decide_eq_true_eq, Bool.false_eq_true, if_false, if_true, List.append_nil, List.nil_append, List.cons_append]
    refine count_of lA ?_
    rw [hA]
    simp only [x_seq, x_if, x_test, x_B, x_op, x_un, x_varS, x_var0, x_c, x_I0, x_I, x_U, x_bl, x_ret, x_next, x_eqS, x_neS, x_m0, x_m1, x_isStr, x_SM, x_addT, x_slS, x_lenT, x_strI, x_mulS, x_startT, x_findT, x_preT, x_lstT, x_ascT, x_digT, x_jn, x_js0, x_js1, x_isS, x_fmt, x_fmtS, x_divW, x_truK, x_truS, x_raiseT, x_asg, x_name, x_set0, x_setS, x_drop, x_cb, x_cons, x_nil, x_int1, x_abs1, x_max2, x_gcd, x_gsub, x_sl, x_part, x_nopart, x_int, x_call, x_lst, x_tup, x_not, x_and, x_or, x_andV, x_orV, x_notV, x_ifE, x_eqI, x_neI, x_eqB, x_neB, x_tbm, x_never, x_make, x_meth, x_isII, x_isIC, x_bool1, decide_eq_true_eq, Bool.false_eq_true, if_false, if_true, List.append_nil, List.nil_append, List.cons_append]
    cases hc1 : cnt (partA (tl a)) with
    | false =>
      simp only [x_seq, x_if, x_test, x_B, x_op, x_un, x_varS, x_var0, x_c, x_I0, x_I, x_U, x_bl, x_ret, x_next, x_eqS, x_neS, x_m0, x_m1, x_isStr, x_SM, x_addT, x_slS, x_lenT, x_strI, x_mulS, x_startT, x_findT, x_preT, x_lstT, x_ascT, x_digT, x_jn, x_js0, x_js1, x_isS, x_fmt, x_fmtS, x_divW, x_truK, x_truS, x_raiseT, x_asg, x_name, x_set0, x_setS, x_drop, x_cb, x_cons, x_nil, x_int1, x_abs1, x_max2, x_gcd, x_gsub, x_sl, x_part, x_nopart, x_int, x_call, x_lst, x_tup, x_not, x_and, x_or, x_andV, x_orV, x_notV, x_ifE, x_eqI, x_neI, x_eqB, x_neB, x_tbm, x_never, x_make, x_meth, x_isII, x_isIC, x_bool1, decide_eq_true_eq, Bool.false_eq_true, if_false, if_true, List.append_nil, List.nil_append, List.cons_append, Bool.not_false]
      exact raise H1 s1 (numOf_bad (.inl hc1))
    | true =>
      simp only [x_seq, x_if, x_test, x_B, x_op, x_un, x_varS, x_var0, x_c, x_I0, x_I, x_U, x_bl, x_ret, x_next, x_eqS, x_neS, x_m0, x_m1, x_isStr, x_SM, x_addT, x_slS, x_lenT, x_strI, x_mulS, x_startT, x_findT, x_preT, x_lstT, x_ascT, x_digT, x_jn, x_js0, x_js1, x_isS, x_fmt, x_fmtS, x_divW, x_truK, x_truS, x_raiseT, x_asg, x_name, x_set0, x_setS, x_drop, x_cb, x_cons, x_nil, x_int1, x_abs1, x_max2, x_gcd, x_gsub, x_sl, x_part, x_nopart, x_int, x_call, x_lst, x_tup, x_not, x_and, x_or, x_andV, x_orV, x_notV, x_ifE, x_eqI, x_neI, x_eqB, x_neB, x_tbm, x_never, x_make, x_meth, x_isII, x_isIC, x_bool1, decide_eq_true_eq, Bool.false_eq_true, if_false, if_true, List.append_nil, List.nil_append, List.cons_append, Bool.not_true]
      refine count_of lB ?_
      rw [hB]
      simp only [x_seq, x_if, x_test, x_B, x_op, x_un, x_varS, x_var0, x_c, x_I0, x_I, x_U, x_bl, x_ret, x_next, x_eqS, x_neS, x_m0, x_m1, x_isStr, x_SM, x_addT, x_slS, x_lenT, x_strI, x_mulS, x_startT, x_findT, x_preT, x_lstT, x_ascT, x_digT, x_jn, x_js0, x_js1, x_isS, x_fmt, x_fmtS, x_divW, x_truK, x_truS, x_raiseT, x_asg, x_name, x_set0, x_setS, x_drop, x_cb, x_cons, x_nil, x_int1, x_abs1, x_max2, x_gcd, x_gsub, x_sl, x_part, x_nopart, x_int, x_call, x_lst, x_tup, x_not, x_and, x_or, x_andV, x_orV, x_notV, x_ifE, x_eqI, x_neI, x_eqB, x_neB, x_tbm, x_never, x_make, x_meth, x_isII, x_isIC, x_bool1, decide_eq_true_eq, Bool.false_eq_true, if_false, if_true, List.append_nil, List.nil_append, List.cons_append]
      cases hc2 : cnt (partB (tl a)) with
      | false =>
        simp only [x_seq, x_if, x_test, x_B, x_op, x_un, x_varS, x_var0, x_c, x_I0, x_I, x_U, x_bl, x_ret, x_next, x_eqS, x_neS, x_m0, x_m1, x_isStr, x_SM, x_addT, x_slS, x_lenT, x_strI, x_mulS, x_startT, x_findT, x_preT, x_lstT, x_ascT, x_digT, x_jn, x_js0, x_js1, x_isS, x_fmt, x_fmtS, x_divW, x_truK, x_truS, x_raiseT, x_asg, x_name, x_set0, x_setS, x_drop, x_cb, x_cons, x_nil, x_int1, x_abs1, x_max2, x_gcd, x_gsub, x_sl, x_part, x_nopart, x_int, x_call, x_lst, x_tup, x_not, x_and, x_or, x_andV, x_orV, x_notV, x_ifE, x_eqI, x_neI, x_eqB, x_neB, x_tbm, x_never, x_make, x_meth, x_isII, x_isIC, x_bool1, decide_eq_true_eq, Bool.false_eq_true, if_false, if_true, List.append_nil, List.nil_append, List.cons_append, Bool.not_false]
        exact raise H1 s1 (numOf_bad (.inr (.inl hc2)))
      | true =>
        have i1 := fun (H : Hp) (Q : VK) => int_cnt (x := A) (H := H) (Q := Q) (by rw [hA]; exact hc1)
        have i2 := fun (H : Hp) (Q : VK) => int_cnt (x := B) (H := H) (Q := Q) (by rw [hB]; exact hc2)
        rw [hA] at i1
        rw [hB] at i2
        have v1 := cnt_lt hc1
        have v2 := cnt_lt hc2
        have ag := fun {t b : Int} (h0 : digitsVal (partB (tl a)) ≠ 0) (hn : Norm t b (sgn (tl a) (digitsVal (partA (tl a)))) (digitsVal (partB (tl a)) : Nat)) => numOf_again hc1 hc2 h0 hn
        have bad0 := fun (h : digitsVal (partB (tl a)) = 0) => numOf_bad (.inr (.inr h))
        simp only [x_seq, x_if, x_test, x_B, x_op, x_un, x_varS, x_var0, x_c, x_I0, x_I, x_U, x_bl, x_ret, x_next, x_eqS, x_neS, x_m0, x_m1, x_isStr, x_SM, x_addT, x_slS, x_lenT, x_strI, x_mulS, x_startT, x_findT, x_preT, x_lstT, x_ascT, x_digT, x_jn, x_js0, x_js1, x_isS, x_fmt, x_fmtS, x_divW, x_truK, x_truS, x_raiseT, x_asg, x_name, x_set0, x_setS, x_drop, x_cb, x_cons, x_nil, x_int1, x_abs1, x_max2, x_gcd, x_gsub, x_sl, x_part, x_nopart, x_int, x_call, x_lst, x_tup, x_not, x_and, x_or, x_andV, x_orV, x_notV, x_ifE, x_eqI, x_neI, x_eqB, x_neB, x_tbm, x_never, x_make, x_meth, x_isII, x_isIC, x_bool1, decide_eq_true_eq, Bool.false_eq_true, if_false, if_true, List.append_nil, List.nil_append, List.cons_append, Bool.not_true, i2, i1]
        generalize digitsVal (partA (tl a)) = N at v1 ag ⊢
        generalize digitsVal (partB (tl a)) = M at v2 ag bad0 ⊢
        refine ite2 (fun h0 => ?_) fun h0 => ?_
        · exact raise H1 s1 (bad0 (by omega))
        have hM : M ≠ 0 := by omega
        have bN : Bd 200 (N : Int) := by
          unfold Bd
          rw [Int.natAbs_natCast]
          exact Nat.lt_of_lt_of_le v1 le60
        have bM : Bd 200 (M : Int) := by
          unfold Bd
          rw [Int.natAbs_natCast]
          exact Nat.lt_of_lt_of_le v2 le60
        refine fun r dd m1 m2 m3 => make_at (bN.mono (by decide)) (bM.mono (by decide)) (by omega) m1 m2 m3 fun H2 t b hr hn s2 => ?_
        obtain ⟨dx, hr'⟩ := id hr
        -- written again
        have fin : ∀ (r : Addr) (H3 : Hp) (t b : Int), RatAt C H3 r t b → Norm t b (sgn (tl a) N) (M : Int) → Same H H3 →
            rOwnStr C (spStr C) E0 [.ref r] H3 (fun x H1 => rNe x (.str a) H1 fun x H' => ∃ k, x = .bl k ∧ if k = true then rTail P0 K mg D BN (fun cls d H'_1 => E cls d H'_1) (.str a) H' else Q (.ref r) H') := by
          intro r H3 t b hr hn s3
          obtain ⟨dx, hr'⟩ := id hr
          have l := hn.le (by omega)
          rw [sgn_abs, Int.natAbs_natCast] at l
          rw [x_ownStr hr']
          have bt : Bd 200 t := Nat.lt_of_le_of_lt l.1 (by rw [← Int.natAbs_natCast N]; exact bN)
          have bb : Bd 200 b := Nat.lt_of_le_of_lt l.2 (by rw [← Int.natAbs_natCast M]; exact bM)
          refine ⟨r, t, b, rfl, hr, hn.pos, bt.mono (by decide), bb.mono (by decide), fun y H4 hy s4 => ⟨y, rfl, ?_⟩⟩
          have e := ag hM hn
          simp only [x_seq, x_if, x_test, x_B, x_op, x_un, x_varS, x_var0, x_c, x_I0, x_I, x_U, x_bl, x_ret, x_next, x_eqS, x_neS, x_m0, x_m1, x_isStr, x_SM, x_addT, x_slS, x_lenT, x_strI, x_mulS, x_startT, x_findT, x_preT, x_lstT, x_ascT, x_digT, x_jn, x_js0, x_js1, x_isS, x_fmt, x_fmtS, x_divW, x_truK, x_truS, x_raiseT, x_asg, x_name, x_set0, x_setS, x_drop, x_cb, x_cons, x_nil, x_int1, x_abs1, x_max2, x_gcd, x_gsub, x_sl, x_part, x_nopart, x_int, x_call, x_lst, x_tup, x_not, x_and, x_or, x_andV, x_orV, x_notV, x_ifE, x_eqI, x_neI, x_eqB, x_neB, x_tbm, x_never, x_make, x_meth, x_isII, x_isIC, x_bool1, decide_eq_true_eq, Bool.false_eq_true, if_false, if_true, List.append_nil, List.nil_append, List.cons_append]
          rw [dec_str, hy]
          by_cases hw : written t b = tl a
          · rw [if_pos hw] at e
            rw [e] at k
            rw [decide_eq_true hw]
            exact k r H4 (hr.same s4) (s3.trans s4)
          · rw [if_neg hw] at e
            rw [decide_eq_false hw]
            exact raise H4 (s3.trans s4) e
        simp only [x_seq, x_if, x_test, x_B, x_op, x_un, x_varS, x_var0, x_c, x_I0, x_I, x_U, x_bl, x_ret, x_next, x_eqS, x_neS, x_m0, x_m1, x_isStr, x_SM, x_addT, x_slS, x_lenT, x_strI, x_mulS, x_startT, x_findT, x_preT, x_lstT, x_ascT, x_digT, x_jn, x_js0, x_js1, x_isS, x_fmt, x_fmtS, x_divW, x_truK, x_truS, x_raiseT, x_asg, x_name, x_set0, x_setS, x_drop, x_cb, x_cons, x_nil, x_int1, x_abs1, x_max2, x_gcd, x_gsub, x_sl, x_part, x_nopart, x_int, x_call, x_lst, x_tup, x_not, x_and, x_or, x_andV, x_orV, x_notV, x_ifE, x_eqI, x_neI, x_eqB, x_neB, x_tbm, x_never, x_make, x_meth, x_isII, x_isIC, x_bool1, decide_eq_true_eq, Bool.false_eq_true, if_false, if_true, List.append_nil, List.nil_append, List.cons_append, startswith_minus]
        cases hneg : neg? (tl a) with
        | true =>
          simp only [x_seq, x_if, x_test, x_B, x_op, x_un, x_varS, x_var0, x_c, x_I0, x_I, x_U, x_bl, x_ret, x_next, x_eqS, x_neS, x_m0, x_m1, x_isStr, x_SM, x_addT, x_slS, x_lenT, x_strI, x_mulS, x_startT, x_findT, x_preT, x_lstT, x_ascT, x_digT, x_jn, x_js0, x_js1, x_isS, x_fmt, x_fmtS, x_divW, x_truK, x_truS, x_raiseT, x_asg, x_name, x_set0, x_setS, x_drop, x_cb, x_cons, x_nil, x_int1, x_abs1, x_max2, x_gcd, x_gsub, x_sl, x_part, x_nopart, x_int, x_call, x_lst, x_tup, x_not, x_and, x_or, x_andV, x_orV, x_notV, x_ifE, x_eqI, x_neI, x_eqB, x_neB, x_tbm, x_never, x_make, x_meth, x_isII, x_isIC, x_bool1, decide_eq_true_eq, Bool.false_eq_true, if_false, if_true, List.append_nil, List.nil_append, List.cons_append]
          rw [x_ownU hr']
          refine ⟨r, t, b, rfl, hr, hn.low, ?_, ?_, fun r2 H3 n d hr2 hn2 s3 => ?_⟩
          · have l := hn.le (by omega)
            exact (bN.of l.1).mono (by decide)
          · have l := hn.le (by omega)
            exact (bM.of l.2).mono (by decide)
          · simp only [x_seq, x_if, x_test, x_B, x_op, x_un, x_varS, x_var0, x_c, x_I0, x_I, x_U, x_bl, x_ret, x_next, x_eqS, x_neS, x_m0, x_m1, x_isStr, x_SM, x_addT, x_slS, x_lenT, x_strI, x_mulS, x_startT, x_findT, x_preT, x_lstT, x_ascT, x_digT, x_jn, x_js0, x_js1, x_isS, x_fmt, x_fmtS, x_divW, x_truK, x_truS, x_raiseT, x_asg, x_name, x_set0, x_setS, x_drop, x_cb, x_cons, x_nil, x_int1, x_abs1, x_max2, x_gcd, x_gsub, x_sl, x_part, x_nopart, x_int, x_call, x_lst, x_tup, x_not, x_and, x_or, x_andV, x_orV, x_notV, x_ifE, x_eqI, x_neI, x_eqB, x_neB, x_tbm, x_never, x_make, x_meth, x_isII, x_isIC, x_bool1, decide_eq_true_eq, Bool.false_eq_true, if_false, if_true, List.append_nil, List.nil_append, List.cons_append]
            refine fin r2 H3 n d hr2 ?_ ((s1.trans s2).trans s3)
            have hs : sgn (tl a) N = -(N : Int) := by
              unfold sgn
              rw [if_pos hneg]
            rw [hs]
            refine hn2.cross hn.low.nz ?_
            have q := hn.eq
            rw [Int.neg_mul, Int.neg_mul, q]
        | false =>
          simp only [x_seq, x_if, x_test, x_B, x_op, x_un, x_varS, x_var0, x_c, x_I0, x_I, x_U, x_bl, x_ret, x_next, x_eqS, x_neS, x_m0, x_m1, x_isStr, x_SM, x_addT, x_slS, x_lenT, x_strI, x_mulS, x_startT, x_findT, x_preT, x_lstT, x_ascT, x_digT, x_jn, x_js0, x_js1, x_isS, x_fmt, x_fmtS, x_divW, x_truK, x_truS, x_raiseT, x_asg, x_name, x_set0, x_setS, x_drop, x_cb, x_cons, x_nil, x_int1, x_abs1, x_max2, x_gcd, x_gsub, x_sl, x_part, x_nopart, x_int, x_call, x_lst, x_tup, x_not, x_and, x_or, x_andV, x_orV, x_notV, x_ifE, x_eqI, x_neI, x_eqB, x_neB, x_tbm, x_never, x_make, x_meth, x_isII, x_isIC, x_bool1, decide_eq_true_eq, Bool.false_eq_true, if_false, if_true, List.append_nil, List.nil_append, List.cons_append]
          refine fin r H2 t b hr ?_ (s1.trans s2)
          have hs : sgn (tl a) N = (N : Int) := by
            unfold sgn
            rw [if_neg (by rw [hneg]; decide)]
          rw [hs]
          exact hn
  unfold t_nread
  rw [x_seq]
  simp only [x_if, x_test, x_B, x_op, x_un, x_varS, x_var0, x_c, x_I0, x_I, x_U, x_bl, x_ret, x_next, x_eqS, x_neS, x_m0, x_m1, x_isStr, x_SM, x_addT, x_slS, x_lenT, x_strI, x_mulS, x_startT, x_findT, x_preT, x_lstT, x_ascT, x_digT, x_jn, x_js0, x_js1, x_isS, x_fmt, x_fmtS, x_divW, x_truK, x_truS, x_raiseT, x_asg, x_name, x_set0, x_setS, x_drop, x_cb, x_cons, x_nil, x_int1, x_abs1, x_max2, x_gcd, x_gsub, x_sl, x_part, x_nopart, x_int, x_call, x_lst, x_tup, x_not, x_and, x_or, x_andV, x_orV, x_notV, x_ifE, x_eqI, x_neI, x_eqB, x_neB, x_tbm, x_never, x_make, x_meth, x_isII, x_isIC, x_bool1, decide_eq_true_eq, Bool.false_eq_true, if_false, if_true, List.append_nil, List.nil_append, List.cons_append, x_par]
  have lp : (Txt.removeprefix a "-").length ≤ a.length := by
    rw [tl_len, removeprefix_minus, tl_len a]
    exact body_len _
  refine ⟨hz, Nat.le_trans lp hz, fun p hp => x_tup3 upd_same ?_⟩
  have s1 : Same H (upd H p (.tup [.str (Txt.partition (Txt.removeprefix a "-") "/").1, .str (Txt.partition (Txt.removeprefix a "-") "/").2.1, .str (Txt.partition (Txt.removeprefix a "-") "/").2.2])) := Same.new hp
  generalize (upd H p (.tup [.str (Txt.partition (Txt.removeprefix a "-") "/").1, .str (Txt.partition (Txt.removeprefix a "-") "/").2.1, .str (Txt.partition (Txt.removeprefix a "-") "/").2.2])) = H1 at s1 ⊢
  have hpt := partition_slash (Txt.removeprefix a "-")
  rw [removeprefix_minus] at hpt
  have hbk := part47_back (body (tl a))
  have hbl : (body (tl a)).length ≤ sizeLine := by
    rw [← removeprefix_minus, ← tl_len]
    exact Nat.le_trans lp hz
  simp only [x_set0, x_setS]
  rw [x_seq]
  cases e : part47 (body (tl a)) with
  | mk x o =>
    rw [e] at hpt hbk
    have pA : partA (tl a) = x := by
      unfold partA
      rw [e]
    cases o with
    | none =>
      dsimp only at hpt hbk
      rw [List.append_nil] at hbk
      have pB : partB (tl a) = [49] := by
        unfold partB
        rw [e]
      rw [hpt]
      have te : Str.empty.length = 0 := rfl
      simp only [x_if, x_test, x_B, x_op, x_un, x_varS, x_var0, x_c, x_I0, x_I, x_U, x_bl, x_ret, x_next, x_eqS, x_neS, x_m0, x_m1, x_isStr, x_SM, x_addT, x_slS, x_lenT, x_strI, x_mulS, x_startT, x_findT, x_preT, x_lstT, x_ascT, x_digT, x_jn, x_js0, x_js1, x_isS, x_fmt, x_fmtS, x_divW, x_truK, x_truS, x_raiseT, x_asg, x_name, x_set0, x_setS, x_drop, x_cb, x_cons, x_nil, x_int1, x_abs1, x_max2, x_gcd, x_gsub, x_sl, x_part, x_nopart, x_int, x_call, x_lst, x_tup, x_not, x_and, x_or, x_andV, x_orV, x_notV, x_ifE, x_eqI, x_neI, x_eqB, x_neB, x_tbm, x_never, x_make, x_meth, x_isII, x_isIC, x_bool1, decide_eq_true_eq, Bool.false_eq_true, if_false, if_true, List.append_nil, List.nil_append, List.cons_append, te]
      refine ⟨Nat.zero_le _, ?_⟩
      refine rest _ _ _ _ s1 ?_ ?_ (Nat.le_trans lp hz) (by decide +kernel)
      · rw [removeprefix_minus, pA]
        exact hbk.1
      · rw [pB]
        decide +kernel
    | some r =>
      dsimp only at hpt hbk
      obtain ⟨q1, q2, q3⟩ := hpt
      have pB : partB (tl a) = r := by
        unfold partB
        rw [e]
      have lens := congrArg List.length hbk.1
      rw [List.length_append, List.length_cons] at lens
      rw [q2]
      have tsl : ("/" : Str).length = 1 := by decide +kernel
      simp only [x_if, x_test, x_B, x_op, x_un, x_varS, x_var0, x_c, x_I0, x_I, x_U, x_bl, x_ret, x_next, x_eqS, x_neS, x_m0, x_m1, x_isStr, x_SM, x_addT, x_slS, x_lenT, x_strI, x_mulS, x_startT, x_findT, x_preT, x_lstT, x_ascT, x_digT, x_jn, x_js0, x_js1, x_isS, x_fmt, x_fmtS, x_divW, x_truK, x_truS, x_raiseT, x_asg, x_name, x_set0, x_setS, x_drop, x_cb, x_cons, x_nil, x_int1, x_abs1, x_max2, x_gcd, x_gsub, x_sl, x_part, x_nopart, x_int, x_call, x_lst, x_tup, x_not, x_and, x_or, x_andV, x_orV, x_notV, x_ifE, x_eqI, x_neI, x_eqB, x_neB, x_tbm, x_never, x_make, x_meth, x_isII, x_isIC, x_bool1, decide_eq_true_eq, Bool.false_eq_true, if_false, if_true, List.append_nil, List.nil_append, List.cons_append, tsl]
      refine ⟨by decide, ?_⟩
      refine rest _ _ _ _ s1 ?_ ?_ ?_ ?_
      · rw [q1, pA]
      · rw [q3, pB]
      · rw [tl_len, q1]
        omega
      · rw [tl_len, q3]
        omega
end SpX

set_option Elab.async false
set_option linter.all false
set_option maxRecDepth 100000
set_option maxHeartbeats 4000000
set_option exponentiation.threshold 20000
/-! Law k01: the law's own text. -/
namespace SpX
open PySem PySem.Spec NumText L2
open TL (tl)
def spRightT (C : Addr) : Sp := fun vs H Q _ => ∃ (p o : Addr) (t b : Int) (y : Str), vs = [.ref p, .ref o, .str y] ∧ RatAt C H p t b ∧ TupAt H o t b ∧ 0 < b ∧ Bd 900 t ∧ Bd 900 b ∧ tl y = written t b ∧ ∀ H', Same H H' → Q (.bl true) H'
def t_nright (P : Program) (K : PySem.W.Frag) (mg : Str → Option Value) (C Z D BN : Addr) (E : XK) : TS :=
    (tSeq (tIfS (tOr (tNot (tB (tCB (rIsA C) (tCons (tVar 0) (tCons (tC (.ref C)) tNil))))) (tOr (tNot (tB (tCall spInteger [] E0 (tCons (tUn (rFld C "top") (tVar 0)) tNil)))) (tNot (tB (tCall spInteger [] E0 (tCons (tUn (rFld C "bottom") (tVar 0)) tNil)))))) (tRet (tC (.bl false))) tNext)
    (tRet (tAndV (tOp rEq (tUn (rFld C "top") (tVar 0)) (tOp rIx1 (tVar 1) (tC (.int 0)))) (tAndV (tOp rEq (tUn (rFld C "bottom") (tVar 0)) (tOp rIx1 (tVar 1) (tC (.int 1)))) (tOp rEq (tCB (rOwnStr C (spStr C) E0) (tCons (tVar 0) tNil)) (tVar 2))))))
theorem pure_nright {P0 : Program} {K : PySem.W.Frag} {mg : Str → Option Value} {C Z D BN : Addr} (vs : List V) (H : Hp) (Q : VK) (E : XK) (h : spRightT C vs H Q E) : t_nright P0 K mg C Z D BN E { nx := fun _ H' => Q .non H', rt := Q } (start ["told", "due", "text"] vs) H := by
  obtain ⟨p, o, t, b, y, rfl, ⟨dx, hp⟩, ho, hb, bt, bb, hy, k⟩ := h
  show t_nright P0 K mg C Z D BN E _ [some (.ref p), some (.ref o), some (.str y)] H
  unfold t_nright
  simp only [x_seq, x_if, x_test, x_B, x_op, x_un, x_varS, x_var0, x_c, x_I0, x_I, x_U, x_bl, x_ret, x_next, x_eqS, x_neS, x_m0, x_m1, x_isStr, x_SM, x_addT, x_slS, x_lenT, x_strI, x_mulS, x_startT, x_findT, x_preT, x_lstT, x_ascT, x_digT, x_jn, x_js0, x_js1, x_isS, x_fmt, x_fmtS, x_divW, x_truK, x_truS, x_raiseT, x_asg, x_name, x_set0, x_setS, x_drop, x_cb, x_cons, x_nil, x_int1, x_abs1, x_max2, x_gcd, x_gsub, x_sl, x_part, x_nopart, x_int, x_call, x_lst, x_tup, x_not, x_and, x_or, x_andV, x_orV, x_notV, x_ifE, x_eqI, x_neI, x_eqB, x_neB, x_tbm, x_never, x_make, x_meth, x_isII, x_isIC, x_bool1, decide_eq_true_eq, Bool.false_eq_true, if_false, if_true, List.append_nil, List.nil_append, List.cons_append, x_isRC hp, x_top hp, x_bot hp, x_ixT ho at0, x_ixT ho at1, Bool.not_true]
  refine int_of ?_
  simp only [x_seq, x_if, x_test, x_B, x_op, x_un, x_varS, x_var0, x_c, x_I0, x_I, x_U, x_bl, x_ret, x_next, x_eqS, x_neS, x_m0, x_m1, x_isStr, x_SM, x_addT, x_slS, x_lenT, x_strI, x_mulS, x_startT, x_findT, x_preT, x_lstT, x_ascT, x_digT, x_jn, x_js0, x_js1, x_isS, x_fmt, x_fmtS, x_divW, x_truK, x_truS, x_raiseT, x_asg, x_name, x_set0, x_setS, x_drop, x_cb, x_cons, x_nil, x_int1, x_abs1, x_max2, x_gcd, x_gsub, x_sl, x_part, x_nopart, x_int, x_call, x_lst, x_tup, x_not, x_and, x_or, x_andV, x_orV, x_notV, x_ifE, x_eqI, x_neI, x_eqB, x_neB, x_tbm, x_never, x_make, x_meth, x_isII, x_isIC, x_bool1, decide_eq_true_eq, Bool.false_eq_true, if_false, if_true, List.append_nil, List.nil_append, List.cons_append, x_isRC hp, x_top hp, x_bot hp, x_ixT ho at0, x_ixT ho at1, Bool.not_true]
  refine int_of ?_
  simp only [x_seq, x_if, x_test, x_B, x_op, x_un, x_varS, x_var0, x_c, x_I0, x_I, x_U, x_bl, x_ret, x_next, x_eqS, x_neS, x_m0, x_m1, x_isStr, x_SM, x_addT, x_slS, x_lenT, x_strI, x_mulS, x_startT, x_findT, x_preT, x_lstT, x_ascT, x_digT, x_jn, x_js0, x_js1, x_isS, x_fmt, x_fmtS, x_divW, x_truK, x_truS, x_raiseT, x_asg, x_name, x_set0, x_setS, x_drop, x_cb, x_cons, x_nil, x_int1, x_abs1, x_max2, x_gcd, x_gsub, x_sl, x_part, x_nopart, x_int, x_call, x_lst, x_tup, x_not, x_and, x_or, x_andV, x_orV, x_notV, x_ifE, x_eqI, x_neI, x_eqB, x_neB, x_tbm, x_never, x_make, x_meth, x_isII, x_isIC, x_bool1, decide_eq_true_eq, Bool.false_eq_true, if_false, if_true, List.append_nil, List.nil_append, List.cons_append, x_isRC hp, x_top hp, x_bot hp, x_ixT ho at0, x_ixT ho at1, Bool.not_true, decide_true, x_ownStr hp]
  refine ⟨p, t, b, rfl, ⟨dx, hp⟩, hb, bt.mono (by decide), bb.mono (by decide), fun z H1 hz s1 => ⟨z, rfl, ?_⟩⟩
  simp only [x_seq, x_if, x_test, x_B, x_op, x_un, x_varS, x_var0, x_c, x_I0, x_I, x_U, x_bl, x_ret, x_next, x_eqS, x_neS, x_m0, x_m1, x_isStr, x_SM, x_addT, x_slS, x_lenT, x_strI, x_mulS, x_startT, x_findT, x_preT, x_lstT, x_ascT, x_digT, x_jn, x_js0, x_js1, x_isS, x_fmt, x_fmtS, x_divW, x_truK, x_truS, x_raiseT, x_asg, x_name, x_set0, x_setS, x_drop, x_cb, x_cons, x_nil, x_int1, x_abs1, x_max2, x_gcd, x_gsub, x_sl, x_part, x_nopart, x_int, x_call, x_lst, x_tup, x_not, x_and, x_or, x_andV, x_orV, x_notV, x_ifE, x_eqI, x_neI, x_eqB, x_neB, x_tbm, x_never, x_make, x_meth, x_isII, x_isIC, x_bool1, decide_eq_true_eq, Bool.false_eq_true, if_false, if_true, List.append_nil, List.nil_append, List.cons_append]
  rw [dec_str, hz, hy, decide_eq_true rfl]
  exact k H1 s1
/-! ### what is read -/
def spReads (C : Addr) : Sp := fun vs H Q _ => ∃ (a : Str) (due : V), vs = [.str a, due] ∧ a.length ≤ 100000 ∧ (match numOf (tl a) with | none => due = .non | some (t, b) => ∃ o, due = .ref o ∧ TupAt H o t b) ∧ ∀ H', Same H H' → Q (.bl true) H'
def t_ntryb (C BN : Addr) (W : WX) : TS := tAsg (tSM (spRead C BN) (WE W) (tCons (tVar 0) tNil)) (gName 2)
def isE (K : PySem.W.Frag) (BN a : Addr) (cls : Value) (d : Option Addr) (v : V) : TE := tCB (rCaughtD K BN a cls d) (tCons (tVar 4) (tCons (tC v) tNil))
def t_ncaught (K : PySem.W.Frag) (BN BP BQ BL BT SE : Addr) (a : Addr) (cls : Value) (d : Option Addr) : TS :=
  tSeq (tAsg (tOrV (isE K BN a cls d (.ref BP)) (tOrV (isE K BN a cls d (.ref BQ)) (isE K BN a cls d (.ref BL)))) (gName 5))
  (tAsg (tLst (tCons (isE K BN a cls d (.ref BT)) (tCons (isE K BN a cls d (.ref SE)) (tCons (isE K BN a cls d (.ty "ValueError")) (tCons (tVar 5) (tCons (tXf a cls d BN "text" (tVar 4)) tNil)))))) (gName 3))
def t_ntry (K : PySem.W.Frag) (C BN BP BQ BL BT SE : Addr) : TS := fun D σ H => t_ntryb C BN (wAs K (.ref BN) 4 (t_ncaught K BN BP BQ BL BT SE) (fun _ _ _ _ => False) D) D σ H
theorem x_isN {ta : TE} {σ : L2.St} {H : Hp} {Q : VK} : tIsN ta σ H Q = ta σ H (fun x H1 => Q (.bl (decide (x = .non))) H1) := rfl
/-- what the text says of the error's classes -/
structure ExcNum (K : PySem.W.Frag) (BN BP BQ BL BT SE : Addr) : Prop where
  cz : ExcC K BN
  is : PySem.W.exmOne K (.ref BN) (.ref BN) = some true
  ve : PySem.W.kitOne K (.ref BN) (.type "ValueError") = some true
  bt : PySem.W.kitOne K (.ref BN) (.ref BT) = some true
  se : PySem.W.kitOne K (.ref BN) (.ref SE) = some true
  bp : PySem.W.kitOne K (.ref BN) (.ref BP) = some false
  bq : PySem.W.kitOne K (.ref BN) (.ref BQ) = some false
  bl : PySem.W.kitOne K (.ref BN) (.ref BL) = some false
theorem isE_of {K : PySem.W.Frag} {BN a c d : Addr} {fs : List (Str × V)} {b : Bool} {σ : L2.St} {H : Hp} {Q : VK} (h4 : σ[4]? = some (some (.ref a))) (ed : H d = some (.xd fs)) (h : PySem.W.kitOne K (.ref BN) (.ref c) = some b) (k : Q (.bl b) H) : isE K BN a (.ref BN) (some d) (.ref c) σ H Q :=
  ⟨_, h4, rfl, ⟨d, fs, rfl, ed⟩, .ref c, .ref c, b, rfl, fun u r => r, h, k⟩
theorem isE_ty {K : PySem.W.Frag} {BN a d : Addr} {c : String} {fs : List (Str × V)} {b : Bool} {σ : L2.St} {H : Hp} {Q : VK} (h4 : σ[4]? = some (some (.ref a))) (ed : H d = some (.xd fs)) (h : PySem.W.kitOne K (.ref BN) (.type c) = some b) (k : Q (.bl b) H) : isE K BN a (.ref BN) (some d) (.ty c) σ H Q :=
  ⟨_, h4, rfl, ⟨d, fs, rfl, ed⟩, .ty c, .type c, b, rfl, fun u r => r, h, k⟩
theorem rightT_of {C p o : Addr} {t b : Int} {y : Str} {H : Hp} {Q : VK} {E : XK} (hr : RatAt C H p t b) (ho : TupAt H o t b) (hb : 0 < b) (bt : Bd 900 t) (bb : Bd 900 b) (hy : tl y = written t b) (k : ∀ H', Same H H' → Q (.bl true) H') : spRightT C [.ref p, .ref o, .str y] H Q E := ⟨p, o, t, b, y, rfl, hr, ho, hb, bt, bb, hy, k⟩
def t_nreads (BP BQ BL BT SE : Addr) (P : Program) (K : PySem.W.Frag) (mg : Str → Option Value) (C Z D BN : Addr) (E : XK) : TS :=
    (tSeq (tAsg (tC .non) (gName 2))
    (tSeq (tAsg (tLst tNil) (gName 3))
    (tSeq (t_ntry K C BN BP BQ BL BT SE)
    (tSeq (tIfS (tB (tIsN (tVar 1))) (tRet (tOp (rEqP K) (tVar 3) (tLst (tCons (tC (.bl true)) (tCons (tC (.bl true)) (tCons (tC (.bl true)) (tCons (tC (.bl false)) (tCons (tVar 0) tNil)))))))) tNext)
    (tRet (tAndV (tOp rEq (tCB rLenA (tCons (tVar 3) tNil)) (tC (.int 0))) (tCall (spRightT C) [] E0 (tCons (tVar 2) (tCons (tVar 1) (tCons (tVar 0) tNil))))))))))
theorem pure_nreads {BP BQ BL BT SE : Addr} {P0 : Program} {K : PySem.W.Frag} {mg : Str → Option Value} {C Z D BN : Addr} (X : ExcNum K BN BP BQ BL BT SE) (vs : List V) (H : Hp) (Q : VK) (E : XK) (h : spReads C vs H Q E) :
    t_nreads BP BQ BL BT SE P0 K mg C Z D BN E { nx := fun _ H' => Q .non H', rt := Q } (start ["text", "due", "told", "kept", "e", "others"] vs) H := by
  obtain ⟨a, due, rfl, hz, hdue, k⟩ := h
  show t_nreads BP BQ BL BT SE P0 K mg C Z D BN E _ [some (.str a), some due, none, none, none, none] H
  unfold t_nreads
  rw [x_seq]
  simp only [x_if, x_test, x_B, x_op, x_un, x_varS, x_var0, x_c, x_I0, x_I, x_U, x_bl, x_ret, x_next, x_eqS, x_neS, x_m0, x_m1, x_isStr, x_SM, x_addT, x_slS, x_lenT, x_strI, x_mulS, x_startT, x_findT, x_preT, x_lstT, x_ascT, x_digT, x_jn, x_js0, x_js1, x_isS, x_fmt, x_fmtS, x_divW, x_truK, x_truS, x_raiseT, x_asg, x_name, x_set0, x_setS, x_drop, x_cb, x_cons, x_nil, x_int1, x_abs1, x_max2, x_gcd, x_gsub, x_sl, x_part, x_nopart, x_int, x_call, x_lst, x_tup, x_not, x_and, x_or, x_andV, x_orV, x_notV, x_ifE, x_eqI, x_neI, x_eqB, x_neB, x_tbm, x_never, x_make, x_meth, x_isII, x_isIC, x_bool1, decide_eq_true_eq, Bool.false_eq_true, if_false, if_true, List.append_nil, List.nil_append, List.cons_append]
  rw [x_seq]
  simp only [x_if, x_test, x_B, x_op, x_un, x_varS, x_var0, x_c, x_I0, x_I, x_U, x_bl, x_ret, x_next, x_eqS, x_neS, x_m0, x_m1, x_isStr, x_SM, x_addT, x_slS, x_lenT, x_strI, x_mulS, x_startT, x_findT, x_preT, x_lstT, x_ascT, x_digT, x_jn, x_js0, x_js1, x_isS, x_fmt, x_fmtS, x_divW, x_truK, x_truS, x_raiseT, x_asg, x_name, x_set0, x_setS, x_drop, x_cb, x_cons, x_nil, x_int1, x_abs1, x_max2, x_gcd, x_gsub, x_sl, x_part, x_nopart, x_int, x_call, x_lst, x_tup, x_not, x_and, x_or, x_andV, x_orV, x_notV, x_ifE, x_eqI, x_neI, x_eqB, x_neB, x_tbm, x_never, x_make, x_meth, x_isII, x_isIC, x_bool1, decide_eq_true_eq, Bool.false_eq_true, if_false, if_true, List.append_nil, List.nil_append, List.cons_append]
  refine ⟨by decide, fun p hp => ?_⟩
  have s0 : Same H (upd H p (.lst [])) := Same.new hp
  have e0 : (upd H p (.lst [])) p = some (.lst []) := upd_same
  generalize (upd H p (.lst [])) = H0 at s0 e0 ⊢
  rw [x_seq]
  unfold t_ntry t_ntryb
  rw [x_asg, x_SM, x_cons, x_var0, x_nil]
  refine ⟨a, rfl, Nat.le_trans hz (by decide), ?_⟩
  cases hn : numOf (tl a) with
  | none =>
    rw [hn] at hdue
    dsimp only at hdue ⊢
    subst hdue
    intro d H1 ed s1
    refine ⟨true, X.is, fun _ x hx => ?_, fun h => Bool.noConfusion h⟩
    simp only [x_set0, x_setS]
    unfold t_ncaught
    rw [x_seq, x_asg, x_orV]
    refine isE_of rfl ed X.bp ⟨false, rfl, ?_⟩
    rw [if_neg (by decide), x_orV]
    refine isE_of rfl ed X.bq ⟨false, rfl, ?_⟩
    rw [if_neg (by decide)]
    refine isE_of rfl ed X.bl ?_
    simp only [x_name, x_set0, x_setS]
    rw [x_asg, x_lst, x_cons]
    refine isE_of rfl ed X.bt ?_
    rw [x_cons]
    refine isE_of rfl ed X.se ?_
    rw [x_cons]
    refine isE_ty rfl ed X.ve ?_
    simp only [x_cons, x_varS, x_var0]
    refine ⟨_, rfl, rfl, rfl, d, _, .str a, rfl, ed, rfl, ?_⟩
    dsimp only
    rw [x_nil]
    refine ⟨by show 5 ≤ sizeLine; decide, fun q hq => ?_⟩
    have s2 : Same H1 (upd H1 q (.lst [.bl true, .bl true, .bl true, .bl false, .str a])) := Same.new hq
    have e2 : (upd H1 q (.lst [.bl true, .bl true, .bl true, .bl false, .str a])) q = some (.lst [.bl true, .bl true, .bl true, .bl false, .str a]) := upd_same
    generalize (upd H1 q (.lst [.bl true, .bl true, .bl true, .bl false, .str a])) = H2 at s2 e2 ⊢
    simp only [x_name, x_set0, x_setS]
    rw [x_seq, x_if, x_B]
    simp only [x_if, x_test, x_B, x_op, x_un, x_varS, x_var0, x_c, x_I0, x_I, x_U, x_bl, x_ret, x_next, x_eqS, x_neS, x_m0, x_m1, x_isStr, x_SM, x_addT, x_slS, x_lenT, x_strI, x_mulS, x_startT, x_findT, x_preT, x_lstT, x_ascT, x_digT, x_jn, x_js0, x_js1, x_isS, x_fmt, x_fmtS, x_divW, x_truK, x_truS, x_raiseT, x_asg, x_name, x_set0, x_setS, x_drop, x_cb, x_cons, x_nil, x_int1, x_abs1, x_max2, x_gcd, x_gsub, x_sl, x_part, x_nopart, x_int, x_call, x_lst, x_tup, x_not, x_and, x_or, x_andV, x_orV, x_notV, x_ifE, x_eqI, x_neI, x_eqB, x_neB, x_tbm, x_never, x_make, x_meth, x_isII, x_isIC, x_bool1, decide_eq_true_eq, Bool.false_eq_true, if_false, if_true, List.append_nil, List.nil_append, List.cons_append, x_isN, decide_true]
    refine ⟨by show 5 ≤ sizeLine; decide, fun r hr => ?_⟩
    have nqr : q ≠ r := fun e => by
      rw [← e, e2] at hr
      cases hr
    refine ⟨.list [.bool true, .bool true, .bool true, .bool false, .str a], .list [.bool true, .bool true, .bool true, .bool false, .str a], ?_, ?_, pl5, pl5, dp5, ?_⟩
    · exact .lst (SqL.at (by rw [upd_ne nqr]; exact e2)) (.cons (.bl _) (.cons (.bl _) (.cons (.bl _) (.cons (.bl _) (.cons (.str _) .nil)))))
    · exact .lst (SqL.at upd_same) (.cons (.bl _) (.cons (.bl _) (.cons (.bl _) (.cons (.bl _) (.cons (.str _) .nil)))))
    · have er : PyData.eqv (.list [.bool true, .bool true, .bool true, .bool false, .str a]) (.list [.bool true, .bool true, .bool true, .bool false, .str a]) = true := SeqAt.eqv_refl_plain _ pl5
      rw [er]
      exact k _ (((s0.trans s1).trans s2).trans (Same.new hr))
  | some tb =>
    obtain ⟨t, b⟩ := tb
    rw [hn] at hdue
    dsimp only at hdue ⊢
    obtain ⟨o, rfl, ho⟩ := hdue
    obtain ⟨w1, w2, w3, w4, w5⟩ := numOf_sound hn
    intro r H1 hr s1
    rw [x_name]
    simp only [x_set0, x_setS]
    have e1 := s1 _ _ e0
    have ho1 := (ho.same s0).same s1
    rw [x_seq, x_if, x_B]
    have hno : ¬ ((V.ref o) = V.non) := fun e => by cases e
    simp only [x_if, x_test, x_B, x_op, x_un, x_varS, x_var0, x_c, x_I0, x_I, x_U, x_bl, x_ret, x_next, x_eqS, x_neS, x_m0, x_m1, x_isStr, x_SM, x_addT, x_slS, x_lenT, x_strI, x_mulS, x_startT, x_findT, x_preT, x_lstT, x_ascT, x_digT, x_jn, x_js0, x_js1, x_isS, x_fmt, x_fmtS, x_divW, x_truK, x_truS, x_raiseT, x_asg, x_name, x_set0, x_setS, x_drop, x_cb, x_cons, x_nil, x_int1, x_abs1, x_max2, x_gcd, x_gsub, x_sl, x_part, x_nopart, x_int, x_call, x_lst, x_tup, x_not, x_and, x_or, x_andV, x_orV, x_notV, x_ifE, x_eqI, x_neI, x_eqB, x_neB, x_tbm, x_never, x_make, x_meth, x_isII, x_isIC, x_bool1, decide_eq_true_eq, Bool.false_eq_true, if_false, if_true, List.append_nil, List.nil_append, List.cons_append, x_isN, x_lenA e1, List.length_nil]
    rw [if_neg hno]
    rw [if_pos (show ((0 : Nat) : Int) = 0 from rfl)]
    exact rightT_of hr ho1 w2 ((bd60 w4).mono (by decide)) ((bd60 w5).mono (by decide)) w1.symm fun H2 s2 => k H2 ((s0.trans s1).trans s2)
end SpX

set_option Elab.async false
set_option linter.all false
set_option maxRecDepth 100000
set_option maxHeartbeats 4000000
set_option exponentiation.threshold 20000
/-! Law k01: the law's own text. -/
namespace SpX
open PySem PySem.Spec NumText L2
open TL (tl)
theorem sz2 {v w : V} : [v, w].length ≤ sizeLine := by show 2 ≤ sizeLine; decide
theorem Num60.low {t b : Int} (h : Num60 t b) : Low t b := ⟨h.pos, h.cop⟩
theorem RatAt.keep {C P p : Addr} {H H' : Hp} {t b : Int} (h : RatAt C H p t b) (hp : PoolAt H P) (k : Keep P H H') : RatAt C H' p t b := by
  obtain ⟨dx, h⟩ := h
  obtain ⟨g, s, G, S, c, hp⟩ := hp
  refine ⟨dx, k _ _ (fun e => ?_) h⟩
  subst e
  rw [hp.p] at h
  cases h
theorem drawn_of {P : Addr} {H : Hp} {Q : VK} {E : XK} (hp : PoolAt H P) (k : ∀ (o : Addr) (H' : Hp) (t b : Int), TupAt H' o t b → Num60 t b → PoolAt H' P → Keep P H H' → Q (.ref o) H') : spDrawn [.ref P] H Q E := ⟨P, rfl, hp, k⟩
theorem lowest_of {x y : Int} {H : Hp} {Q : VK} {E : XK} (hy : 0 < y) (bx : Bd 8000 x) (by' : Bd 8000 y) (k : ∀ (o : Addr) (H' : Hp) (t b : Int), TupAt H' o t b → Norm t b x y → Same H H' → Q (.ref o) H') : spLowest [.int x, .int y] H Q E := ⟨x, y, rfl, hy, bx, by', k⟩
theorem reads_of {C : Addr} {a : Str} {due : V} {H : Hp} {Q : VK} {E : XK} (hl : a.length ≤ 100000) (hd : match numOf (tl a) with | none => due = .non | some (t, b) => ∃ o, due = .ref o ∧ TupAt H o t b) (k : ∀ H', Same H H' → Q (.bl true) H') : spReads C [.str a, due] H Q E := ⟨a, due, rfl, hl, hd, k⟩
theorem str_of {C p : Addr} {t b : Int} {H : Hp} {Q : VK} {E : XK} (h : RatAt C H p t b) (hb : 0 < b) (bt : Bd 17999 t) (bb : Bd 17999 b) (k : ∀ (y : Str) (H' : Hp), tl y = written t b → Same H H' → Q (.str y) H') : spStr C [.ref p] H Q E := ⟨p, t, b, rfl, h, hb, bt, bb, k⟩
theorem rat_of_drawn {C p : Addr} {H : Hp} {n d t b : Int} (h : RatAt C H p n d) (hn : Norm n d t b) (hl : Low t b) : RatAt C H p t b := by
  obtain ⟨e1, e2⟩ := Low.same hn.low hl (by rw [hn.eq])
  rwa [e1, e2] at h
theorem reads60 {C : Addr} {y : Str} {o : Addr} {t b : Int} {H : Hp} {Q : VK} {E : XK} (hy : tl y = written t b) (ho : TupAt H o t b) (n : Num60 t b) (k : ∀ H', Same H H' → Q (.bl true) H') : spReads C [.str y, .ref o] H Q E := by
  refine reads_of (len_str _ ?_) ?_ k
  · rw [hy]
    exact Nat.le_trans (written_len ((bd60 n.t).mono (by decide)) ((bd60 n.b).mono (by decide))) (by decide)
  · rw [hy, numOf_written n.pos n.cop n.t n.b]
    exact ⟨o, rfl, ho⟩
/-- a row of the first loop: a Ratio and its pair -/
def RowN (C : Addr) (H : Hp) (v : V) : Prop := ∃ (r p o : Addr) (t b : Int), v = .ref r ∧ H r = some (.tup [.ref p, .ref o]) ∧ RatAt C H p t b ∧ TupAt H o t b ∧ 0 < b ∧ Bd 900 t ∧ Bd 900 b
theorem RowN.same {C : Addr} {H H' : Hp} {v : V} (h : RowN C H v) (s : Same H H') : RowN C H' v := by
  obtain ⟨r, p, o, t, b, e, h1, h2, h3, h4⟩ := h
  exact ⟨r, p, o, t, b, e, s _ _ h1, h2.same s, h3.same s, h4⟩
def t_nlaw (P : Program) (K : PySem.W.Frag) (mg : Str → Option Value) (C Z D BN : Addr) (E : XK) : TS :=
    (tSeq (tAsg (tCall (spPoolB K) [] E0 (tCons (tVar 0) tNil)) (gName 1))
    (tSeq (tAsg (tCall spDrawn [] E0 (tCons (tVar 1) tNil)) (gName 2))
    (tSeq (tAsg (tCall spDrawn [] E0 (tCons (tVar 1) tNil)) (gName 3))
    (tSeq (tAsg (tMake C (spInit C Z) [] E0 (tCons (tOp rIx1 (tVar 2) (tC (.int 0))) (tCons (tOp rIx1 (tVar 2) (tC (.int 1))) tNil))) (gName 4))
    (tSeq (tAsg (tMake C (spInit C Z) [] E0 (tCons (tOp rIx1 (tVar 3) (tC (.int 0))) (tCons (tOp rIx1 (tVar 3) (tC (.int 1))) tNil))) (gName 5))
    (tSeq (tAsg (tCall spLowest [] E0 (tCons (tOp (rI IntMulOk fun i j => .int (i * j)) (tOp rIx1 (tVar 2) (tC (.int 0))) (tOp rIx1 (tVar 3) (tC (.int 0)))) (tCons (tOp (rI IntMulOk fun i j => .int (i * j)) (tOp rIx1 (tVar 2) (tC (.int 1))) (tOp rIx1 (tVar 3) (tC (.int 1)))) tNil))) (gName 6))
    (tSeq (tFor (iList K (tLst (tCons (tTup (tCons (tVar 4) (tCons (tVar 2) tNil))) (tCons (tTup (tCons (tVar 5) (tCons (tVar 3) tNil))) (tCons (tTup (tCons (tOp (rOwn2 C (spBin C mulN) E0) (tVar 4) (tVar 5)) (tCons (tVar 6) tNil))) tNil))))) (gName 7) ((tIfS (tTest (tOp rNe (tCB (rOwnStr C (spStr C) E0) (tCons (tOp rIx1 (tVar 7) (tC (.int 0))) tNil)) (tCall spWritten [] E0 (tCons (tOp rIx1 (tVar 7) (tC (.int 1))) tNil)))) (tRet (tC (.bl false))) tNext)))
    (tSeq (tIfS (tOr (tNot (tB (tCall (spReads C) [] E0 (tCons (tCall spWritten [] E0 (tCons (tVar 2) tNil)) (tCons (tVar 2) tNil))))) (tNot (tB (tCall (spReads C) [] E0 (tCons (tCall spWritten [] E0 (tCons (tVar 3) tNil)) (tCons (tVar 3) tNil)))))) (tRet (tC (.bl false))) tNext)
    (tSeq (tFor (iList K (tOp rCat (tLst (tCons (tCall spWritten [] E0 (tCons (tVar 6) tNil)) (tCons (tCall spText [] E0 (tCons (tVar 1) (tCons (tVar 2) tNil))) tNil))) (tCall spFixed [] E0 tNil))) (gName 8) ((tIfS (tNot (tB (tCall (spReads C) [] E0 (tCons (tVar 8) (tCons (tCall spJudged [] E0 (tCons (tVar 8) tNil)) tNil))))) (tRet (tC (.bl false))) tNext)))
    (tRet (tC (.bl true))))))))))))
theorem pure_nlaw {P0 : Program} {K : PySem.W.Frag} {mg : Str → Option Value} {C Z D BN : Addr} (vs : List V) (H : Hp) (Q : VK) (E : XK) (h : spLaw K vs H Q E) :
    t_nlaw P0 K mg C Z D BN E { nx := fun _ H' => Q .non H', rt := Q } (start ["script", "pool", "one", "two", "first", "second", "both", "row", "text"] vs) H := by
  obtain ⟨a, sc, rfl, hS, hl, k⟩ := h
  show t_nlaw P0 K mg C Z D BN E _ [some (.ref a), none, none, none, none, none, none, none, none] H
  unfold t_nlaw
  rw [x_seq]
  simp only [x_if, x_test, x_B, x_op, x_un, x_varS, x_var0, x_c, x_I0, x_I, x_U, x_bl, x_ret, x_next, x_eqS, x_neS, x_m0, x_m1, x_isStr, x_SM, x_addT, x_slS, x_lenT, x_strI, x_mulS, x_startT, x_findT, x_preT, x_lstT, x_ascT, x_digT, x_jn, x_js0, x_js1, x_isS, x_fmt, x_fmtS, x_divW, x_truK, x_truS, x_raiseT, x_asg, x_name, x_set0, x_setS, x_drop, x_cb, x_cons, x_nil, x_int1, x_abs1, x_max2, x_gcd, x_gsub, x_sl, x_part, x_nopart, x_int, x_call, x_lst, x_tup, x_not, x_and, x_or, x_andV, x_orV, x_notV, x_ifE, x_eqI, x_neI, x_eqB, x_neB, x_tbm, x_never, x_make, x_meth, x_isII, x_isIC, x_bool1, decide_eq_true_eq, Bool.false_eq_true, if_false, if_true, List.append_nil, List.nil_append, List.cons_append]
  refine ⟨a, sc, rfl, hS, hl, fun P H1 hp1 _ => ?_⟩
  have hp1 := hp1.at
  try dsimp only
  rw [x_seq]
  simp only [x_if, x_test, x_B, x_op, x_un, x_varS, x_var0, x_c, x_I0, x_I, x_U, x_bl, x_ret, x_next, x_eqS, x_neS, x_m0, x_m1, x_isStr, x_SM, x_addT, x_slS, x_lenT, x_strI, x_mulS, x_startT, x_findT, x_preT, x_lstT, x_ascT, x_digT, x_jn, x_js0, x_js1, x_isS, x_fmt, x_fmtS, x_divW, x_truK, x_truS, x_raiseT, x_asg, x_name, x_set0, x_setS, x_drop, x_cb, x_cons, x_nil, x_int1, x_abs1, x_max2, x_gcd, x_gsub, x_sl, x_part, x_nopart, x_int, x_call, x_lst, x_tup, x_not, x_and, x_or, x_andV, x_orV, x_notV, x_ifE, x_eqI, x_neI, x_eqB, x_neB, x_tbm, x_never, x_make, x_meth, x_isII, x_isIC, x_bool1, decide_eq_true_eq, Bool.false_eq_true, if_false, if_true, List.append_nil, List.nil_append, List.cons_append]
  refine drawn_of hp1 fun o1 H2 t b ho1 n1 hp2 k2 => ?_
  try dsimp only
  rw [x_seq]
  simp only [x_if, x_test, x_B, x_op, x_un, x_varS, x_var0, x_c, x_I0, x_I, x_U, x_bl, x_ret, x_next, x_eqS, x_neS, x_m0, x_m1, x_isStr, x_SM, x_addT, x_slS, x_lenT, x_strI, x_mulS, x_startT, x_findT, x_preT, x_lstT, x_ascT, x_digT, x_jn, x_js0, x_js1, x_isS, x_fmt, x_fmtS, x_divW, x_truK, x_truS, x_raiseT, x_asg, x_name, x_set0, x_setS, x_drop, x_cb, x_cons, x_nil, x_int1, x_abs1, x_max2, x_gcd, x_gsub, x_sl, x_part, x_nopart, x_int, x_call, x_lst, x_tup, x_not, x_and, x_or, x_andV, x_orV, x_notV, x_ifE, x_eqI, x_neI, x_eqB, x_neB, x_tbm, x_never, x_make, x_meth, x_isII, x_isIC, x_bool1, decide_eq_true_eq, Bool.false_eq_true, if_false, if_true, List.append_nil, List.nil_append, List.cons_append]
  refine drawn_of hp2 fun o2 H3 u c ho2 n2 hp3 k3 => ?_
  have ho1 := ho1.keep hp2 k3
  try dsimp only
  rw [x_seq]
  simp only [x_if, x_test, x_B, x_op, x_un, x_varS, x_var0, x_c, x_I0, x_I, x_U, x_bl, x_ret, x_next, x_eqS, x_neS, x_m0, x_m1, x_isStr, x_SM, x_addT, x_slS, x_lenT, x_strI, x_mulS, x_startT, x_findT, x_preT, x_lstT, x_ascT, x_digT, x_jn, x_js0, x_js1, x_isS, x_fmt, x_fmtS, x_divW, x_truK, x_truS, x_raiseT, x_asg, x_name, x_set0, x_setS, x_drop, x_cb, x_cons, x_nil, x_int1, x_abs1, x_max2, x_gcd, x_gsub, x_sl, x_part, x_nopart, x_int, x_call, x_lst, x_tup, x_not, x_and, x_or, x_andV, x_orV, x_notV, x_ifE, x_eqI, x_neI, x_eqB, x_neB, x_tbm, x_never, x_make, x_meth, x_isII, x_isIC, x_bool1, decide_eq_true_eq, Bool.false_eq_true, if_false, if_true, List.append_nil, List.nil_append, List.cons_append, x_ixT ho1 at0, x_ixT ho1 at1]
  intro p1 dx1 np nd ne
  refine make_at ((bd60 n1.t).mono (by decide)) ((bd60 n1.b).mono (by decide)) (by have := n1.pos; omega) np nd ne fun H4 n d hr hn s4 => ?_
  have hr1 := rat_of_drawn hr hn n1.low
  have ho1 := ho1.same s4
  have ho2 := ho2.same s4
  have hp4 := hp3.same s4
  try dsimp only
  rw [x_seq]
  simp only [x_if, x_test, x_B, x_op, x_un, x_varS, x_var0, x_c, x_I0, x_I, x_U, x_bl, x_ret, x_next, x_eqS, x_neS, x_m0, x_m1, x_isStr, x_SM, x_addT, x_slS, x_lenT, x_strI, x_mulS, x_startT, x_findT, x_preT, x_lstT, x_ascT, x_digT, x_jn, x_js0, x_js1, x_isS, x_fmt, x_fmtS, x_divW, x_truK, x_truS, x_raiseT, x_asg, x_name, x_set0, x_setS, x_drop, x_cb, x_cons, x_nil, x_int1, x_abs1, x_max2, x_gcd, x_gsub, x_sl, x_part, x_nopart, x_int, x_call, x_lst, x_tup, x_not, x_and, x_or, x_andV, x_orV, x_notV, x_ifE, x_eqI, x_neI, x_eqB, x_neB, x_tbm, x_never, x_make, x_meth, x_isII, x_isIC, x_bool1, decide_eq_true_eq, Bool.false_eq_true, if_false, if_true, List.append_nil, List.nil_append, List.cons_append, x_ixT ho2 at0, x_ixT ho2 at1]
  intro p2 dx2 np nd ne
  refine make_at ((bd60 n2.t).mono (by decide)) ((bd60 n2.b).mono (by decide)) (by have := n2.pos; omega) np nd ne fun H5 n' d' hr' hn' s5 => ?_
  have hr2 := rat_of_drawn hr' hn' n2.low
  have hr1 := hr1.same s5
  have ho1 := ho1.same s5
  have ho2 := ho2.same s5
  have hp5 := hp4.same s5
  have b1 := bd60 n1.t
  have b2 := bd60 n1.b
  have b3 := bd60 n2.t
  have b4 := bd60 n2.b
  have m1 : Bd 400 (t * u) := b1.mul b3
  have m2 : Bd 400 (b * c) := b2.mul b4
  have mp : 0 < b * c := Int.mul_pos n1.pos n2.pos
  try dsimp only
  rw [x_seq]
  simp only [x_if, x_test, x_B, x_op, x_un, x_varS, x_var0, x_c, x_I0, x_I, x_U, x_bl, x_ret, x_next, x_eqS, x_neS, x_m0, x_m1, x_isStr, x_SM, x_addT, x_slS, x_lenT, x_strI, x_mulS, x_startT, x_findT, x_preT, x_lstT, x_ascT, x_digT, x_jn, x_js0, x_js1, x_isS, x_fmt, x_fmtS, x_divW, x_truK, x_truS, x_raiseT, x_asg, x_name, x_set0, x_setS, x_drop, x_cb, x_cons, x_nil, x_int1, x_abs1, x_max2, x_gcd, x_gsub, x_sl, x_part, x_nopart, x_int, x_call, x_lst, x_tup, x_not, x_and, x_or, x_andV, x_orV, x_notV, x_ifE, x_eqI, x_neI, x_eqB, x_neB, x_tbm, x_never, x_make, x_meth, x_isII, x_isIC, x_bool1, decide_eq_true_eq, Bool.false_eq_true, if_false, if_true, List.append_nil, List.nil_append, List.cons_append, x_ixT ho1 at0, x_ixT ho1 at1, x_ixT ho2 at0, x_ixT ho2 at1]
  refine ⟨b1.ok b3 (by decide) (by decide) (by decide), b2.ok b4 (by decide) (by decide) (by decide), lowest_of mp (m1.mono (by decide)) (m2.mono (by decide)) fun o3 H6 g f ho3 hn3 s6 => ?_⟩
  have hr1 := hr1.same s6
  have hr2 := hr2.same s6
  have ho1 := ho1.same s6
  have ho2 := ho2.same s6
  have hp6 := hp5.same s6
  have l3 := hn3.le (by omega)
  have bg : Bd 900 g := (Bd.of m1 l3.1).mono (by decide)
  have bf : Bd 900 f := (Bd.of m2 l3.2).mono (by decide)
  try dsimp only
  rw [x_seq, x_forL]
  simp only [x_if, x_test, x_B, x_op, x_un, x_varS, x_var0, x_c, x_I0, x_I, x_U, x_bl, x_ret, x_next, x_eqS, x_neS, x_m0, x_m1, x_isStr, x_SM, x_addT, x_slS, x_lenT, x_strI, x_mulS, x_startT, x_findT, x_preT, x_lstT, x_ascT, x_digT, x_jn, x_js0, x_js1, x_isS, x_fmt, x_fmtS, x_divW, x_truK, x_truS, x_raiseT, x_asg, x_name, x_set0, x_setS, x_drop, x_cb, x_cons, x_nil, x_int1, x_abs1, x_max2, x_gcd, x_gsub, x_sl, x_part, x_nopart, x_int, x_call, x_lst, x_tup, x_not, x_and, x_or, x_andV, x_orV, x_notV, x_ifE, x_eqI, x_neI, x_eqB, x_neB, x_tbm, x_never, x_make, x_meth, x_isII, x_isIC, x_bool1, decide_eq_true_eq, Bool.false_eq_true, if_false, if_true, List.append_nil, List.nil_append, List.cons_append]
  refine ⟨sz2, fun r1 hn1 => ?_⟩
  have s7 : Same H6 (upd H6 r1 (.tup [.ref p1, .ref o1])) := Same.new hn1
  have er1 : (upd H6 r1 (.tup [.ref p1, .ref o1])) r1 = some (.tup [.ref p1, .ref o1]) := upd_same
  generalize (upd H6 r1 (.tup [.ref p1, .ref o1])) = H7 at s7 er1 ⊢
  have hr1 := hr1.same s7
  have hr2 := hr2.same s7
  have ho1 := ho1.same s7
  have ho2 := ho2.same s7
  have ho3 := ho3.same s7
  have hp6 := hp6.same s7
  refine ⟨sz2, fun r2 hn2 => ?_⟩
  have s8 : Same H7 (upd H7 r2 (.tup [.ref p2, .ref o2])) := Same.new hn2
  have er2 : (upd H7 r2 (.tup [.ref p2, .ref o2])) r2 = some (.tup [.ref p2, .ref o2]) := upd_same
  generalize (upd H7 r2 (.tup [.ref p2, .ref o2])) = H8 at s8 er2 ⊢
  have hr1 := hr1.same s8
  have hr2 := hr2.same s8
  have ho1 := ho1.same s8
  have ho2 := ho2.same s8
  have ho3 := ho3.same s8
  have hp6 := hp6.same s8
  have er1 := s8 _ _ er1
  obtain ⟨dp1, hq1⟩ := id hr1
  obtain ⟨dp2, hq2⟩ := id hr2
  rw [x_own2 hq1 hq2]
  refine ⟨p1, .ref p2, t, b, u, c, rfl, hr1, .rat hr2, n1.low, n2.low, b1.mono (by decide), b2.mono (by decide), b3.mono (by decide), b4.mono (by decide), fun p3 H9 n'' d'' hr3 hn9 s9 => ?_⟩
  have hr3 := rat_of_drawn hr3 (hn9.cross (by omega) hn3.eq.symm) hn3.low
  have hr1 := hr1.same s9
  have hr2 := hr2.same s9
  have ho1 := ho1.same s9
  have ho2 := ho2.same s9
  have ho3 := ho3.same s9
  have hp6 := hp6.same s9
  have er1 := s9 _ _ er1
  have er2 := s9 _ _ er2
  refine ⟨sz2, fun r3 hn3' => ?_⟩
  have s10 : Same H9 (upd H9 r3 (.tup [.ref p3, .ref o3])) := Same.new hn3'
  have er3 : (upd H9 r3 (.tup [.ref p3, .ref o3])) r3 = some (.tup [.ref p3, .ref o3]) := upd_same
  generalize (upd H9 r3 (.tup [.ref p3, .ref o3])) = H10 at s10 er3 ⊢
  have hr1 := hr1.same s10
  have hr2 := hr2.same s10
  have ho1 := ho1.same s10
  have ho2 := ho2.same s10
  have ho3 := ho3.same s10
  have hp6 := hp6.same s10
  have hr3 := hr3.same s10
  have er1 := s10 _ _ er1
  have er2 := s10 _ _ er2
  refine ⟨by show 3 ≤ sizeLine; decide, fun l hnl => ?_⟩
  have s11 : Same H10 (upd H10 l (.lst [.ref r1, .ref r2, .ref r3])) := Same.new hnl
  have el : (upd H10 l (.lst [.ref r1, .ref r2, .ref r3])) l = some (.lst [.ref r1, .ref r2, .ref r3]) := upd_same
  generalize (upd H10 l (.lst [.ref r1, .ref r2, .ref r3])) = H11 at s11 el ⊢
  have hr1 := hr1.same s11
  have hr2 := hr2.same s11
  have ho1 := ho1.same s11
  have ho2 := ho2.same s11
  have ho3 := ho3.same s11
  have hp6 := hp6.same s11
  have hr3 := hr3.same s11
  have er1 := s11 _ _ er1
  have er2 := s11 _ _ er2
  have er3 := s11 _ _ er3
  have hrow : ∀ v ∈ [V.ref r1, .ref r2, .ref r3], RowN C H11 v := by
    intro v hv
    simp only [List.mem_cons, List.not_mem_nil, or_false] at hv
    rcases hv with h | h | h <;> subst h
    · exact ⟨r1, p1, o1, t, b, rfl, er1, hr1, ho1, n1.pos, b1.mono (by decide), b2.mono (by decide)⟩
    · exact ⟨r2, p2, o2, u, c, rfl, er2, hr2, ho2, n2.pos, b3.mono (by decide), b4.mono (by decide)⟩
    · exact ⟨r3, p3, o3, g, f, rfl, er3, hr3, ho3, hn3.pos, bg, bf⟩
  clear er1 er2 er3 hr1 hr2 hr3 hq1 hq2
  refine for_lstV (K := K) (a := l) (xs := [.ref r1, .ref r2, .ref r3]) (fun _ => rfl) (fun _ σ H => (∃ w, σ = [some (.ref a), some (.ref P), some (.ref o1), some (.ref o2), some (.ref p1), some (.ref p2), some (.ref o3), w, none]) ∧ Same H11 H) ⟨⟨_, rfl⟩, Same.refl _⟩ (fun i σ H _ h => h.2 _ _ el) ?_ ?_
  · rintro i x σ H hx ⟨⟨w, rfl⟩, s⟩
    obtain ⟨r, p, o, t, b, rfl, er, hr, ho, h0, bt, bb⟩ := (hrow x (List.mem_of_getElem? hx)).same s
    obtain ⟨dx, hr'⟩ := id hr
    simp only [x_if, x_test, x_B, x_op, x_un, x_varS, x_var0, x_c, x_I0, x_I, x_U, x_bl, x_ret, x_next, x_eqS, x_neS, x_m0, x_m1, x_isStr, x_SM, x_addT, x_slS, x_lenT, x_strI, x_mulS, x_startT, x_findT, x_preT, x_lstT, x_ascT, x_digT, x_jn, x_js0, x_js1, x_isS, x_fmt, x_fmtS, x_divW, x_truK, x_truS, x_raiseT, x_asg, x_name, x_set0, x_setS, x_drop, x_cb, x_cons, x_nil, x_int1, x_abs1, x_max2, x_gcd, x_gsub, x_sl, x_part, x_nopart, x_int, x_call, x_lst, x_tup, x_not, x_and, x_or, x_andV, x_orV, x_notV, x_ifE, x_eqI, x_neI, x_eqB, x_neB, x_tbm, x_never, x_make, x_meth, x_isII, x_isIC, x_bool1, decide_eq_true_eq, Bool.false_eq_true, if_false, if_true, List.append_nil, List.nil_append, List.cons_append, x_ixT er at0, x_ownStr hr']
    refine str_of hr h0 (bt.mono (by decide)) (bb.mono (by decide)) fun y H2 hy s2 => ⟨y, rfl, ?_⟩
    simp only [x_if, x_test, x_B, x_op, x_un, x_varS, x_var0, x_c, x_I0, x_I, x_U, x_bl, x_ret, x_next, x_eqS, x_neS, x_m0, x_m1, x_isStr, x_SM, x_addT, x_slS, x_lenT, x_strI, x_mulS, x_startT, x_findT, x_preT, x_lstT, x_ascT, x_digT, x_jn, x_js0, x_js1, x_isS, x_fmt, x_fmtS, x_divW, x_truK, x_truS, x_raiseT, x_asg, x_name, x_set0, x_setS, x_drop, x_cb, x_cons, x_nil, x_int1, x_abs1, x_max2, x_gcd, x_gsub, x_sl, x_part, x_nopart, x_int, x_call, x_lst, x_tup, x_not, x_and, x_or, x_andV, x_orV, x_notV, x_ifE, x_eqI, x_neI, x_eqB, x_neB, x_tbm, x_never, x_make, x_meth, x_isII, x_isIC, x_bool1, decide_eq_true_eq, Bool.false_eq_true, if_false, if_true, List.append_nil, List.nil_append, List.cons_append, x_ixT (s2 _ _ er) at1]
    refine written_of (ho.same s2) h0 bt bb fun z hz => ?_
    have e : decide (y = z) = true := by rw [dec_str, hy, hz, decide_eq_true rfl]
    simp only [x_if, x_test, x_B, x_op, x_un, x_varS, x_var0, x_c, x_I0, x_I, x_U, x_bl, x_ret, x_next, x_eqS, x_neS, x_m0, x_m1, x_isStr, x_SM, x_addT, x_slS, x_lenT, x_strI, x_mulS, x_startT, x_findT, x_preT, x_lstT, x_ascT, x_digT, x_jn, x_js0, x_js1, x_isS, x_fmt, x_fmtS, x_divW, x_truK, x_truS, x_raiseT, x_asg, x_name, x_set0, x_setS, x_drop, x_cb, x_cons, x_nil, x_int1, x_abs1, x_max2, x_gcd, x_gsub, x_sl, x_part, x_nopart, x_int, x_call, x_lst, x_tup, x_not, x_and, x_or, x_andV, x_orV, x_notV, x_ifE, x_eqI, x_neI, x_eqB, x_neB, x_tbm, x_never, x_make, x_meth, x_isII, x_isIC, x_bool1, decide_eq_true_eq, Bool.false_eq_true, if_false, if_true, List.append_nil, List.nil_append, List.cons_append, e, Bool.not_true]
    exact ⟨⟨_, rfl⟩, s.trans s2⟩
  · rintro σ H ⟨⟨w, rfl⟩, s⟩
    have ho1 := ho1.same s
    have ho2 := ho2.same s
    have ho3 := ho3.same s
    have hp6 := hp6.same s
    dsimp only
    rw [x_seq]
    simp only [x_if, x_test, x_B, x_op, x_un, x_varS, x_var0, x_c, x_I0, x_I, x_U, x_bl, x_ret, x_next, x_eqS, x_neS, x_m0, x_m1, x_isStr, x_SM, x_addT, x_slS, x_lenT, x_strI, x_mulS, x_startT, x_findT, x_preT, x_lstT, x_ascT, x_digT, x_jn, x_js0, x_js1, x_isS, x_fmt, x_fmtS, x_divW, x_truK, x_truS, x_raiseT, x_asg, x_name, x_set0, x_setS, x_drop, x_cb, x_cons, x_nil, x_int1, x_abs1, x_max2, x_gcd, x_gsub, x_sl, x_part, x_nopart, x_int, x_call, x_lst, x_tup, x_not, x_and, x_or, x_andV, x_orV, x_notV, x_ifE, x_eqI, x_neI, x_eqB, x_neB, x_tbm, x_never, x_make, x_meth, x_isII, x_isIC, x_bool1, decide_eq_true_eq, Bool.false_eq_true, if_false, if_true, List.append_nil, List.nil_append, List.cons_append]
    refine written_of ho1 n1.pos (b1.mono (by decide)) (b2.mono (by decide)) fun y hy => ?_
    refine reads60 hy ho1 n1 fun H12 s12 => ?_
    have ho1 := ho1.same s12
    have ho2 := ho2.same s12
    have ho3 := ho3.same s12
    have hp6 := hp6.same s12
    simp only [x_if, x_test, x_B, x_op, x_un, x_varS, x_var0, x_c, x_I0, x_I, x_U, x_bl, x_ret, x_next, x_eqS, x_neS, x_m0, x_m1, x_isStr, x_SM, x_addT, x_slS, x_lenT, x_strI, x_mulS, x_startT, x_findT, x_preT, x_lstT, x_ascT, x_digT, x_jn, x_js0, x_js1, x_isS, x_fmt, x_fmtS, x_divW, x_truK, x_truS, x_raiseT, x_asg, x_name, x_set0, x_setS, x_drop, x_cb, x_cons, x_nil, x_int1, x_abs1, x_max2, x_gcd, x_gsub, x_sl, x_part, x_nopart, x_int, x_call, x_lst, x_tup, x_not, x_and, x_or, x_andV, x_orV, x_notV, x_ifE, x_eqI, x_neI, x_eqB, x_neB, x_tbm, x_never, x_make, x_meth, x_isII, x_isIC, x_bool1, decide_eq_true_eq, Bool.false_eq_true, if_false, if_true, List.append_nil, List.nil_append, List.cons_append, Bool.not_true]
    refine written_of ho2 n2.pos (b3.mono (by decide)) (b4.mono (by decide)) fun y hy => ?_
    refine reads60 hy ho2 n2 fun H13 s13 => ?_
    have ho1 := ho1.same s13
    have ho2 := ho2.same s13
    have ho3 := ho3.same s13
    have hp6 := hp6.same s13
    simp only [x_if, x_test, x_B, x_op, x_un, x_varS, x_var0, x_c, x_I0, x_I, x_U, x_bl, x_ret, x_next, x_eqS, x_neS, x_m0, x_m1, x_isStr, x_SM, x_addT, x_slS, x_lenT, x_strI, x_mulS, x_startT, x_findT, x_preT, x_lstT, x_ascT, x_digT, x_jn, x_js0, x_js1, x_isS, x_fmt, x_fmtS, x_divW, x_truK, x_truS, x_raiseT, x_asg, x_name, x_set0, x_setS, x_drop, x_cb, x_cons, x_nil, x_int1, x_abs1, x_max2, x_gcd, x_gsub, x_sl, x_part, x_nopart, x_int, x_call, x_lst, x_tup, x_not, x_and, x_or, x_andV, x_orV, x_notV, x_ifE, x_eqI, x_neI, x_eqB, x_neB, x_tbm, x_never, x_make, x_meth, x_isII, x_isIC, x_bool1, decide_eq_true_eq, Bool.false_eq_true, if_false, if_true, List.append_nil, List.nil_append, List.cons_append, Bool.not_true]
    rw [x_seq, x_forL]
    simp only [x_if, x_test, x_B, x_op, x_un, x_varS, x_var0, x_c, x_I0, x_I, x_U, x_bl, x_ret, x_next, x_eqS, x_neS, x_m0, x_m1, x_isStr, x_SM, x_addT, x_slS, x_lenT, x_strI, x_mulS, x_startT, x_findT, x_preT, x_lstT, x_ascT, x_digT, x_jn, x_js0, x_js1, x_isS, x_fmt, x_fmtS, x_divW, x_truK, x_truS, x_raiseT, x_asg, x_name, x_set0, x_setS, x_drop, x_cb, x_cons, x_nil, x_int1, x_abs1, x_max2, x_gcd, x_gsub, x_sl, x_part, x_nopart, x_int, x_call, x_lst, x_tup, x_not, x_and, x_or, x_andV, x_orV, x_notV, x_ifE, x_eqI, x_neI, x_eqB, x_neB, x_tbm, x_never, x_make, x_meth, x_isII, x_isIC, x_bool1, decide_eq_true_eq, Bool.false_eq_true, if_false, if_true, List.append_nil, List.nil_append, List.cons_append]
    refine written_of ho3 hn3.pos bg bf fun y3 hy3 => ?_
    have l3 := written_len bg bf
    refine ⟨P, o1, t, b, rfl, hp6, ho1, n1, fun yt H14 lt hp14 k14 => ?_⟩
    try dsimp only
    refine ⟨sz2, fun q hq => ?_⟩
    have s15 : Same H14 (upd H14 q (.lst [.str y3, .str yt])) := Same.new hq
    have eq : (upd H14 q (.lst [.str y3, .str yt])) q = some (.lst [.str y3, .str yt]) := upd_same
    generalize (upd H14 q (.lst [.str y3, .str yt])) = H15 at s15 eq ⊢
    refine ⟨rfl, fun pf ys H16 ef lf lys s16 => ?_⟩
    dsimp only
    rw [x_cat (s16 _ _ eq) ef (by rw [List.length_map]; exact Nat.le_trans (show 2 + ys.length ≤ 200 by omega) (by decide))]
    intro l2 hl2
    have el2 : (upd H16 l2 (.lst ([V.str y3, .str yt] ++ ys.map V.str))) l2 = some (.lst ([V.str y3, .str yt] ++ ys.map V.str)) := upd_same
    generalize (upd H16 l2 (.lst ([V.str y3, .str yt] ++ ys.map V.str))) = H17 at el2 ⊢
    have hx : ∀ v ∈ [V.str y3, .str yt] ++ ys.map V.str, ∃ z : Str, v = .str z ∧ z.length ≤ 6000 := by
      intro v hv
      rcases List.mem_append.mp hv with h | h
      · simp only [List.mem_cons, List.not_mem_nil, or_false] at h
        rcases h with h | h
        · exact ⟨_, h, by rw [tl_len, hy3]; omega⟩
        · exact ⟨_, h, lt⟩
      · obtain ⟨z, hz, rfl⟩ := List.mem_map.mp h
        exact ⟨_, rfl, by have := lys z hz; omega⟩
    clear hy3 l3 k14 s16 ef lf lys s15 eq hy
    refine for_lstV (K := K) (a := l2) (xs := [V.str y3, .str yt] ++ ys.map V.str) (fun _ => rfl) (fun _ σ H => (∃ w', σ = [some (.ref a), some (.ref P), some (.ref o1), some (.ref o2), some (.ref p1), some (.ref p2), some (.ref o3), w, w']) ∧ Same H17 H) ⟨⟨_, rfl⟩, Same.refl _⟩ (fun i σ H _ h => h.2 _ _ el2) ?_ ?_
    · rintro i x σ H hxi ⟨⟨w', rfl⟩, s⟩
      obtain ⟨z, rfl, lz⟩ := hx x (List.mem_of_getElem? hxi)
      simp only [x_if, x_test, x_B, x_op, x_un, x_varS, x_var0, x_c, x_I0, x_I, x_U, x_bl, x_ret, x_next, x_eqS, x_neS, x_m0, x_m1, x_isStr, x_SM, x_addT, x_slS, x_lenT, x_strI, x_mulS, x_startT, x_findT, x_preT, x_lstT, x_ascT, x_digT, x_jn, x_js0, x_js1, x_isS, x_fmt, x_fmtS, x_divW, x_truK, x_truS, x_raiseT, x_asg, x_name, x_set0, x_setS, x_drop, x_cb, x_cons, x_nil, x_int1, x_abs1, x_max2, x_gcd, x_gsub, x_sl, x_part, x_nopart, x_int, x_call, x_lst, x_tup, x_not, x_and, x_or, x_andV, x_orV, x_notV, x_ifE, x_eqI, x_neI, x_eqB, x_neB, x_tbm, x_never, x_make, x_meth, x_isII, x_isIC, x_bool1, decide_eq_true_eq, Bool.false_eq_true, if_false, if_true, List.append_nil, List.nil_append, List.cons_append]
      refine ⟨z, rfl, Nat.le_trans (show z.length + 2 ≤ 6002 by omega) (by decide), fun H' s1 => ?_⟩
      cases hn : numOf (tl z) with
      | none =>
        dsimp only
        refine reads_of (Nat.le_trans lz (by decide)) (by rw [hn]) fun H2 s2 => ?_
        simp only [x_if, x_test, x_B, x_op, x_un, x_varS, x_var0, x_c, x_I0, x_I, x_U, x_bl, x_ret, x_next, x_eqS, x_neS, x_m0, x_m1, x_isStr, x_SM, x_addT, x_slS, x_lenT, x_strI, x_mulS, x_startT, x_findT, x_preT, x_lstT, x_ascT, x_digT, x_jn, x_js0, x_js1, x_isS, x_fmt, x_fmtS, x_divW, x_truK, x_truS, x_raiseT, x_asg, x_name, x_set0, x_setS, x_drop, x_cb, x_cons, x_nil, x_int1, x_abs1, x_max2, x_gcd, x_gsub, x_sl, x_part, x_nopart, x_int, x_call, x_lst, x_tup, x_not, x_and, x_or, x_andV, x_orV, x_notV, x_ifE, x_eqI, x_neI, x_eqB, x_neB, x_tbm, x_never, x_make, x_meth, x_isII, x_isIC, x_bool1, decide_eq_true_eq, Bool.false_eq_true, if_false, if_true, List.append_nil, List.nil_append, List.cons_append, Bool.not_true]
        exact ⟨⟨_, rfl⟩, (s.trans s1).trans s2⟩
      | some tb =>
        obtain ⟨x, y⟩ := tb
        intro o' H2 ho' s2
        try dsimp only
        refine reads_of (Nat.le_trans lz (by decide)) (by rw [hn]; exact ⟨o', rfl, ho'⟩) fun H3 s3 => ?_
        simp only [x_if, x_test, x_B, x_op, x_un, x_varS, x_var0, x_c, x_I0, x_I, x_U, x_bl, x_ret, x_next, x_eqS, x_neS, x_m0, x_m1, x_isStr, x_SM, x_addT, x_slS, x_lenT, x_strI, x_mulS, x_startT, x_findT, x_preT, x_lstT, x_ascT, x_digT, x_jn, x_js0, x_js1, x_isS, x_fmt, x_fmtS, x_divW, x_truK, x_truS, x_raiseT, x_asg, x_name, x_set0, x_setS, x_drop, x_cb, x_cons, x_nil, x_int1, x_abs1, x_max2, x_gcd, x_gsub, x_sl, x_part, x_nopart, x_int, x_call, x_lst, x_tup, x_not, x_and, x_or, x_andV, x_orV, x_notV, x_ifE, x_eqI, x_neI, x_eqB, x_neB, x_tbm, x_never, x_make, x_meth, x_isII, x_isIC, x_bool1, decide_eq_true_eq, Bool.false_eq_true, if_false, if_true, List.append_nil, List.nil_append, List.cons_append, Bool.not_true]
        exact ⟨⟨_, rfl⟩, ((s.trans s1).trans s2).trans s3⟩
    · rintro σ H ⟨⟨w', rfl⟩, s⟩
      try dsimp only
      try simp only [x_if, x_test, x_B, x_op, x_un, x_varS, x_var0, x_c, x_I0, x_I, x_U, x_bl, x_ret, x_next, x_eqS, x_neS, x_m0, x_m1, x_isStr, x_SM, x_addT, x_slS, x_lenT, x_strI, x_mulS, x_startT, x_findT, x_preT, x_lstT, x_ascT, x_digT, x_jn, x_js0, x_js1, x_isS, x_fmt, x_fmtS, x_divW, x_truK, x_truS, x_raiseT, x_asg, x_name, x_set0, x_setS, x_drop, x_cb, x_cons, x_nil, x_int1, x_abs1, x_max2, x_gcd, x_gsub, x_sl, x_part, x_nopart, x_int, x_call, x_lst, x_tup, x_not, x_and, x_or, x_andV, x_orV, x_notV, x_ifE, x_eqI, x_neI, x_eqB, x_neB, x_tbm, x_never, x_make, x_meth, x_isII, x_isIC, x_bool1, decide_eq_true_eq, Bool.false_eq_true, if_false, if_true, List.append_nil, List.nil_append, List.cons_append]
      exact k _
end SpX

set_option Elab.async false
set_option linter.all false
set_option maxRecDepth 100000
set_option maxHeartbeats 4000000
namespace SpX
open PySem PySem.Spec L2
def top (i : Nat) : Stmt := PySem.Challenge.pw_spotheights_k01_number_texts.main.body.getD i (.Pass ⟨0, 0, 0, 0⟩)
abbrev s_pool : Stmt := top 19
theorem sc_pool : FnScope ["script", "greats", "smalls", "cell"] ["script"] (defScope s_pool) := ⟨rfl, rfl, rfl, by decide +kernel, rfl, by decide +kernel, by decide +kernel⟩
abbrev s_take : Stmt := top 20
theorem sc_take : FnScope ["pool", "most", "count", "seed", "mixed", "value", "rest"] ["pool", "most"] (defScope s_take) := ⟨rfl, rfl, rfl, by decide +kernel, rfl, by decide +kernel, by decide +kernel⟩
abbrev s_integer : Stmt := top 21
theorem sc_integer : FnScope ["thing"] ["thing"] (defScope s_integer) := ⟨rfl, rfl, rfl, by decide +kernel, rfl, by decide +kernel, by decide +kernel⟩
abbrev s_common : Stmt := top 22
theorem sc_common : FnScope ["one", "two", "k", "rest"] ["one", "two"] (defScope s_common) := ⟨rfl, rfl, rfl, by decide +kernel, rfl, by decide +kernel, by decide +kernel⟩
abbrev s_init : Stmt := inClass (top 14) 0
theorem sc_init : FnScope ["self", "top", "bottom", "common"] ["self", "top", "bottom"] (defScope s_init) := ⟨rfl, rfl, rfl, by decide +kernel, rfl, by decide +kernel, by decide +kernel⟩
abbrev s_mul : Stmt := inClass (top 14) 5
theorem sc_mul : FnScope ["self", "other"] ["self", "other"] (defScope s_mul) := ⟨rfl, rfl, rfl, by decide +kernel, rfl, by decide +kernel, by decide +kernel⟩
abbrev s_neg : Stmt := inClass (top 14) 7
theorem sc_neg : FnScope ["self"] ["self"] (defScope s_neg) := ⟨rfl, rfl, rfl, by decide +kernel, rfl, by decide +kernel, by decide +kernel⟩
abbrev s_npowers : Stmt := top 16
theorem sc_npowers : FnScope ["size", "power", "powers"] ["size"] (defScope s_npowers) := ⟨rfl, rfl, rfl, by decide +kernel, rfl, by decide +kernel, by decide +kernel⟩
abbrev s_nwint : Stmt := top 15
theorem sc_nwint : FnScope ["number", "blocks", "power", "digits", "block", "half"] ["number"] (defScope s_nwint) := ⟨rfl, rfl, rfl, by decide +kernel, rfl, by decide +kernel, by decide +kernel⟩
abbrev s_ncount : Stmt := top 17
theorem sc_ncount : FnScope ["text"] ["text"] (defScope s_ncount) := ⟨rfl, rfl, rfl, by decide +kernel, rfl, by decide +kernel, by decide +kernel⟩
abbrev s_nstr : Stmt := inClass (top 14) 11
theorem sc_nstr : FnScope ["self"] ["self"] (defScope s_nstr) := ⟨rfl, rfl, rfl, by decide +kernel, rfl, by decide +kernel, by decide +kernel⟩
abbrev s_bt : Stmt := inClass (top 5) 0
theorem sc_bt : SupScope ["self", "text"] ["self", "text"] (defScope s_bt) := ⟨rfl, rfl, rfl, by decide +kernel, rfl, by decide +kernel, by decide +kernel, by decide +kernel, rfl, rfl⟩
abbrev s_nread : Stmt := inClass (top 14) 14
theorem sc_nread : FnScope ["text", "size", "number", "top", "slash", "bottom"] ["text"] (defScope s_nread) := ⟨rfl, rfl, rfl, by decide +kernel, rfl, by decide +kernel, by decide +kernel⟩
abbrev s_npower : Stmt := top 23
theorem sc_npower : FnScope ["base", "many", "found", "k"] ["base", "many"] (defScope s_npower) := ⟨rfl, rfl, rfl, by decide +kernel, rfl, by decide +kernel, by decide +kernel⟩
abbrev s_nsize : Stmt := top 24
theorem sc_nsize : FnScope ["pool", "kind", "number", "k"] ["pool"] (defScope s_nsize) := ⟨rfl, rfl, rfl, by decide +kernel, rfl, by decide +kernel, by decide +kernel⟩
abbrev s_nlowest : Stmt := top 25
theorem sc_nlowest : FnScope ["above", "below", "common"] ["above", "below"] (defScope s_nlowest) := ⟨rfl, rfl, rfl, by decide +kernel, rfl, by decide +kernel, by decide +kernel⟩
abbrev s_ndrawn : Stmt := top 26
theorem sc_ndrawn : FnScope ["pool", "above", "below"] ["pool"] (defScope s_ndrawn) := ⟨rfl, rfl, rfl, by decide +kernel, rfl, by decide +kernel, by decide +kernel⟩
abbrev s_nwritten : Stmt := top 27
theorem sc_nwritten : FnScope ["pair"] ["pair"] (defScope s_nwritten) := ⟨rfl, rfl, rfl, by decide +kernel, rfl, by decide +kernel, by decide +kernel⟩
abbrev s_ngroup : Stmt := top 28
theorem sc_ngroup : FnScope ["text", "value", "mark", "place"] ["text"] (defScope s_ngroup) := ⟨rfl, rfl, rfl, by decide +kernel, rfl, by decide +kernel, by decide +kernel⟩
abbrev s_njudged : Stmt := top 29
theorem sc_njudged : FnScope ["text", "body", "groups", "above", "below"] ["text"] (defScope s_njudged) := ⟨rfl, rfl, rfl, by decide +kernel, rfl, by decide +kernel, by decide +kernel⟩
abbrev s_nmark : Stmt := top 30
theorem sc_nmark : FnScope ["pool", "marks"] ["pool"] (defScope s_nmark) := ⟨rfl, rfl, rfl, by decide +kernel, rfl, by decide +kernel, by decide +kernel⟩
abbrev s_nlong : Stmt := top 31
theorem sc_nlong : FnScope ["pool", "many", "block", "digits"] ["pool"] (defScope s_nlong) := ⟨rfl, rfl, rfl, by decide +kernel, rfl, by decide +kernel, by decide +kernel⟩
abbrev s_nspoilt : Stmt := top 32
theorem sc_nspoilt : FnScope ["pool", "pair", "text", "way", "at", "start", "factor"] ["pool", "pair"] (defScope s_nspoilt) := ⟨rfl, rfl, rfl, by decide +kernel, rfl, by decide +kernel, by decide +kernel⟩
abbrev s_ntext : Stmt := top 33
theorem sc_ntext : FnScope ["pool", "pair", "kind", "k"] ["pool", "pair"] (defScope s_ntext) := ⟨rfl, rfl, rfl, by decide +kernel, rfl, by decide +kernel, by decide +kernel⟩
abbrev s_nright : Stmt := top 34
theorem sc_nright : FnScope ["told", "due", "text"] ["told", "due", "text"] (defScope s_nright) := ⟨rfl, rfl, rfl, by decide +kernel, rfl, by decide +kernel, by decide +kernel⟩
abbrev s_nreads : Stmt := top 35
theorem sc_nreads : FnScope ["text", "due", "told", "kept", "e", "others"] ["text", "due"] (defScope s_nreads) := ⟨rfl, rfl, rfl, by decide +kernel, rfl, by decide +kernel, by decide +kernel⟩
abbrev s_nfixed : Stmt := top 36
theorem sc_nfixed : FnScope ["found"] [] (defScope s_nfixed) := ⟨rfl, rfl, rfl, by decide +kernel, rfl, by decide +kernel, by decide +kernel⟩
abbrev s_nlaw : Stmt := top 37
theorem sc_nlaw : FnScope ["script", "pool", "one", "two", "first", "second", "both", "row", "text"] ["script"] (defScope s_nlaw) := ⟨rfl, rfl, rfl, by decide +kernel, rfl, by decide +kernel, by decide +kernel⟩
structure Ad where
  C : Addr
  Z : Addr
  BN : Addr
  BP : Addr
  BQ : Addr
  BL : Addr
  BT : Addr
  SE : Addr
  pr : Addr
  ds : List Value
  f_pool : Addr
  d_pool : FuncData
  f_take : Addr
  d_take : FuncData
  f_integer : Addr
  d_integer : FuncData
  f_common : Addr
  d_common : FuncData
  f_init : Addr
  d_init : FuncData
  f_mul : Addr
  d_mul : FuncData
  f_neg : Addr
  d_neg : FuncData
  f_npowers : Addr
  d_npowers : FuncData
  f_nwint : Addr
  d_nwint : FuncData
  f_ncount : Addr
  d_ncount : FuncData
  f_nstr : Addr
  d_nstr : FuncData
  f_bt : Addr
  d_bt : FuncData
  f_nread : Addr
  d_nread : FuncData
  f_npower : Addr
  d_npower : FuncData
  f_nsize : Addr
  d_nsize : FuncData
  f_nlowest : Addr
  d_nlowest : FuncData
  f_ndrawn : Addr
  d_ndrawn : FuncData
  f_nwritten : Addr
  d_nwritten : FuncData
  f_ngroup : Addr
  d_ngroup : FuncData
  f_njudged : Addr
  d_njudged : FuncData
  f_nmark : Addr
  d_nmark : FuncData
  f_nlong : Addr
  d_nlong : FuncData
  f_nspoilt : Addr
  d_nspoilt : FuncData
  f_ntext : Addr
  d_ntext : FuncData
  f_nright : Addr
  d_nright : FuncData
  f_nreads : Addr
  d_nreads : FuncData
  f_nfixed : Addr
  d_nfixed : FuncData
  f_nlaw : Addr
  d_nlaw : FuncData
/-- what the top has written -/
structure Txt (P : Program) (K : PySem.W.Frag) (mg : Str → Option Value) (a : Ad) : Prop where
  isa_Ratio : IsaOk K a.C
  na_top : NoAttr K a.C "top"
  na_bottom : NoAttr K a.C "bottom"
  g_Ratio : mg "Ratio" = some (.ref a.C)
  mk_Ratio : Mk K a.C a.f_init
  v_init1 : Vals [.int 1] a.ds
  b_init1 : Binds K a.d_init ["self", "top", "bottom"] a.ds
  F_init : FunD K "__init__" "Ratio.__init__" (defArgs s_init) (defBody s_init) (defScope s_init) [.int 1] [] a.f_init a.d_init
  g_gcd : mg "gcd" = some (.builtin "math.gcd")
  xZ : PySem.W.excIn K a.Z [.type "ValueError", .type "Exception", .type "BaseException", .type "object"] "ValueError.__new__" = true
  gZ : mg "ZeroDivisor" = some (.ref a.Z)
  kZ : PySem.W.keepIn K (.ref a.Z) = true
  bZ : PySem.W.subIn K (.ref a.Z) (.type "BaseException") = some true
  tZ : PySem.W.typeIn K (.ref a.Z) = some (.type "type")
  te_BN : TxtE P K mg a.BT a.BN a.f_bt
  ti_bt : PySem.W.typeIn K (.ref a.f_bt) = some (.type "function")
  bt : ∃ (oc : Value) (od : Option Addr) (kV doc pm : Value) (an : Option Addr) (cda cc : Addr) (ct : Value) (osl : Array (Option Value)), K.lookup a.f_bt = some ⟨oc, od, .func a.d_bt, osl⟩ ∧
    a.d_bt = PySem.W.ksFn "__init__" "BadText.__init__" (defArgs s_bt) (defBody s_bt) (defScope s_bt) .none kV doc pm an (.ref cda) ct cc ∧ PySem.W.codeIn K (.ref cda) "BadText.__init__" = true ∧ SupF P K cda cc a.BT
  cr_Ratio : ClX.CRead K a.C (.type "type")
  sm_nread : SMet K a.C (.type "type") "read" a.pr a.f_nread
  exc : ExcNum K a.BN a.BP a.BQ a.BL a.BT a.SE
  xf : XfC K a.BN
  nt : PySem.W.findIn K (.ref a.BN) "text" = some none
  o_mul : OwnOp K a.C .Mult a.f_mul
  i_mul : OwnInt K a.C .Mult
  c_LONGEST_READ : ∃ u, mg "LONGEST_READ" = some u ∧ RelV (.int 60) u
  c_BLOCK_DIGITS : ∃ u, mg "BLOCK_DIGITS" = some u ∧ RelV (.int 64) u
  c_BLOCK : ∃ u, mg "BLOCK" = some u ∧ RelV (.int (10 ^ 64)) u
  g_BadNumber : mg "BadNumber" = some (.ref a.BN)
  g_BadPolynomial : mg "BadPolynomial" = some (.ref a.BP)
  g_BadQuestion : mg "BadQuestion" = some (.ref a.BQ)
  g_BadLine : mg "BadLine" = some (.ref a.BL)
  g_BadText : mg "BadText" = some (.ref a.BT)
  g_SpotError : mg "SpotError" = some (.ref a.SE)
  n_len : mg "len" = none
  n_abs : mg "abs" = none
  n_int : mg "int" = none
  n_list : mg "list" = none
  n_bool : mg "bool" = none
  n_max : mg "max" = none
  n_isinstance : mg "isinstance" = none
  n_range : mg "range" = none
  n_ValueError : mg "ValueError" = none
  n_str : mg "str" = none
  n_divmod : mg "divmod" = none
  n_super : mg "super" = none
  o_neg : PySem.W.findIn K (.ref a.C) "__neg__" = some (some (.ref a.f_neg))
  i_neg : PySem.W.isFn K (.ref a.f_neg) = true
  o_nstr : PySem.W.findIn K (.ref a.C) "__str__" = some (some (.ref a.f_nstr))
  i_nstr : PySem.W.isFn K (.ref a.f_nstr) = true
  F_pool : Fun K "_law_pool" "_law_pool" s_pool a.f_pool a.d_pool
  b_pool : Binds K a.d_pool ["script"] []
  g_pool : mg "_law_pool" = some (.ref a.f_pool)
  k_pool : PySem.W.keepIn K (.ref a.f_pool) = true
  F_take : Fun K "_law_take" "_law_take" s_take a.f_take a.d_take
  b_take : Binds K a.d_take ["pool", "most"] []
  g_take : mg "_law_take" = some (.ref a.f_take)
  k_take : PySem.W.keepIn K (.ref a.f_take) = true
  F_integer : Fun K "_law_integer" "_law_integer" s_integer a.f_integer a.d_integer
  b_integer : Binds K a.d_integer ["thing"] []
  g_integer : mg "_law_integer" = some (.ref a.f_integer)
  k_integer : PySem.W.keepIn K (.ref a.f_integer) = true
  F_common : Fun K "_law_common" "_law_common" s_common a.f_common a.d_common
  b_common : Binds K a.d_common ["one", "two"] []
  g_common : mg "_law_common" = some (.ref a.f_common)
  k_common : PySem.W.keepIn K (.ref a.f_common) = true
  b_init : Binds K a.d_init ["self", "top", "bottom"] []
  F_mul : Fun K "__mul__" "Ratio.__mul__" s_mul a.f_mul a.d_mul
  b_mul : Binds K a.d_mul ["self", "other"] []
  F_neg : Fun K "__neg__" "Ratio.__neg__" s_neg a.f_neg a.d_neg
  b_neg : Binds K a.d_neg ["self"] []
  F_npowers : Fun K "_block_powers" "_block_powers" s_npowers a.f_npowers a.d_npowers
  b_npowers : Binds K a.d_npowers ["size"] []
  g_npowers : mg "_block_powers" = some (.ref a.f_npowers)
  k_npowers : PySem.W.keepIn K (.ref a.f_npowers) = true
  F_nwint : Fun K "written_integer" "written_integer" s_nwint a.f_nwint a.d_nwint
  b_nwint : Binds K a.d_nwint ["number"] []
  g_nwint : mg "written_integer" = some (.ref a.f_nwint)
  k_nwint : PySem.W.keepIn K (.ref a.f_nwint) = true
  F_ncount : Fun K "_is_count" "_is_count" s_ncount a.f_ncount a.d_ncount
  b_ncount : Binds K a.d_ncount ["text"] []
  g_ncount : mg "_is_count" = some (.ref a.f_ncount)
  k_ncount : PySem.W.keepIn K (.ref a.f_ncount) = true
  F_nstr : Fun K "__str__" "Ratio.__str__" s_nstr a.f_nstr a.d_nstr
  b_nstr : Binds K a.d_nstr ["self"] []
  b_bt : Binds K a.d_bt ["self", "text"] []
  F_nread : Fun K "read" "Ratio.read" s_nread a.f_nread a.d_nread
  b_nread : Binds K a.d_nread ["text"] []
  F_npower : Fun K "_law_power" "_law_power" s_npower a.f_npower a.d_npower
  b_npower : Binds K a.d_npower ["base", "many"] []
  g_npower : mg "_law_power" = some (.ref a.f_npower)
  k_npower : PySem.W.keepIn K (.ref a.f_npower) = true
  F_nsize : Fun K "_law_size" "_law_size" s_nsize a.f_nsize a.d_nsize
  b_nsize : Binds K a.d_nsize ["pool"] []
  g_nsize : mg "_law_size" = some (.ref a.f_nsize)
  k_nsize : PySem.W.keepIn K (.ref a.f_nsize) = true
  F_nlowest : Fun K "_law_lowest" "_law_lowest" s_nlowest a.f_nlowest a.d_nlowest
  b_nlowest : Binds K a.d_nlowest ["above", "below"] []
  g_nlowest : mg "_law_lowest" = some (.ref a.f_nlowest)
  k_nlowest : PySem.W.keepIn K (.ref a.f_nlowest) = true
  F_ndrawn : Fun K "_law_drawn" "_law_drawn" s_ndrawn a.f_ndrawn a.d_ndrawn
  b_ndrawn : Binds K a.d_ndrawn ["pool"] []
  g_ndrawn : mg "_law_drawn" = some (.ref a.f_ndrawn)
  k_ndrawn : PySem.W.keepIn K (.ref a.f_ndrawn) = true
  F_nwritten : Fun K "_law_written" "_law_written" s_nwritten a.f_nwritten a.d_nwritten
  b_nwritten : Binds K a.d_nwritten ["pair"] []
  g_nwritten : mg "_law_written" = some (.ref a.f_nwritten)
  k_nwritten : PySem.W.keepIn K (.ref a.f_nwritten) = true
  F_ngroup : Fun K "_law_group" "_law_group" s_ngroup a.f_ngroup a.d_ngroup
  b_ngroup : Binds K a.d_ngroup ["text"] []
  g_ngroup : mg "_law_group" = some (.ref a.f_ngroup)
  k_ngroup : PySem.W.keepIn K (.ref a.f_ngroup) = true
  F_njudged : Fun K "_law_judged" "_law_judged" s_njudged a.f_njudged a.d_njudged
  b_njudged : Binds K a.d_njudged ["text"] []
  g_njudged : mg "_law_judged" = some (.ref a.f_njudged)
  k_njudged : PySem.W.keepIn K (.ref a.f_njudged) = true
  F_nmark : Fun K "_law_mark" "_law_mark" s_nmark a.f_nmark a.d_nmark
  b_nmark : Binds K a.d_nmark ["pool"] []
  g_nmark : mg "_law_mark" = some (.ref a.f_nmark)
  k_nmark : PySem.W.keepIn K (.ref a.f_nmark) = true
  F_nlong : Fun K "_law_long" "_law_long" s_nlong a.f_nlong a.d_nlong
  b_nlong : Binds K a.d_nlong ["pool"] []
  g_nlong : mg "_law_long" = some (.ref a.f_nlong)
  k_nlong : PySem.W.keepIn K (.ref a.f_nlong) = true
  F_nspoilt : Fun K "_law_spoilt" "_law_spoilt" s_nspoilt a.f_nspoilt a.d_nspoilt
  b_nspoilt : Binds K a.d_nspoilt ["pool", "pair"] []
  g_nspoilt : mg "_law_spoilt" = some (.ref a.f_nspoilt)
  k_nspoilt : PySem.W.keepIn K (.ref a.f_nspoilt) = true
  F_ntext : Fun K "_law_text" "_law_text" s_ntext a.f_ntext a.d_ntext
  b_ntext : Binds K a.d_ntext ["pool", "pair"] []
  g_ntext : mg "_law_text" = some (.ref a.f_ntext)
  k_ntext : PySem.W.keepIn K (.ref a.f_ntext) = true
  F_nright : Fun K "_law_right" "_law_right" s_nright a.f_nright a.d_nright
  b_nright : Binds K a.d_nright ["told", "due", "text"] []
  g_nright : mg "_law_right" = some (.ref a.f_nright)
  k_nright : PySem.W.keepIn K (.ref a.f_nright) = true
  F_nreads : Fun K "_law_reads" "_law_reads" s_nreads a.f_nreads a.d_nreads
  b_nreads : Binds K a.d_nreads ["text", "due"] []
  g_nreads : mg "_law_reads" = some (.ref a.f_nreads)
  k_nreads : PySem.W.keepIn K (.ref a.f_nreads) = true
  F_nfixed : Fun K "_law_fixed" "_law_fixed" s_nfixed a.f_nfixed a.d_nfixed
  b_nfixed : Binds K a.d_nfixed [] []
  g_nfixed : mg "_law_fixed" = some (.ref a.f_nfixed)
  k_nfixed : PySem.W.keepIn K (.ref a.f_nfixed) = true
  F_nlaw : Fun K "law" "law" s_nlaw a.f_nlaw a.d_nlaw
  b_nlaw : Binds K a.d_nlaw ["script"] []
  g_nlaw : mg "law" = some (.ref a.f_nlaw)
  k_nlaw : PySem.W.keepIn K (.ref a.f_nlaw) = true
section
variable {P : Program} {w : World} {K : PySem.W.Frag} {mg : Str → Option Value} {base : Heap} {a : Ad}
theorem ok_pool (T : Txt P K mg a) : FnOk P w K mg base CX0 1 a.f_pool a.d_pool ["script"] (spPoolB K) := by
  refine T.F_pool.ok sc_pool (fun vs H Q E h => by first | (obtain ⟨rfl, _⟩ := h; rfl) | (obtain ⟨_, rfl, _⟩ := h; rfl) | (obtain ⟨_, _, rfl, _⟩ := h; rfl) | (obtain ⟨_, _, _, rfl, _⟩ := h; rfl) | (obtain ⟨_, _, _, _, rfl, _⟩ := h; rfl) | (obtain ⟨_, _, _, _, _, rfl, _⟩ := h; rfl) | (obtain ⟨_, _, _, _, _, _, rfl, _⟩ := h; rfl) | (obtain ⟨_, _, _, _, _, _, _, rfl, _⟩ := h; rfl) | (obtain ⟨_, _, _, _, _, _, _, _, rfl, _⟩ := h; rfl) | (obtain ⟨_, _, _, _, _, _, _, _, _, rfl, _⟩ := h; rfl)) (fun cdv A outer s H vs Q E hr h => ⟨t_pool K, ?_, pure_poolB vs H Q E h⟩)
  exact (pss_cons (ps_set (i := 1) sc_pool.nd rfl (.inl rfl) (pe_lst pa_nil))
      (pss_cons (ps_set (i := 2) sc_pool.nd rfl (.inl rfl) (pe_lst pa_nil))
      (pss_cons (ps_for PassesOwn.never rfl (pi_list (pv 0)) (pg_name (i := 3) sc_pool.nd rfl (.inl rfl)) (pss_one (ps_if (pt_cmpR op_ge (pe_callB call_abs (by rfl) T.n_abs (by decide +kernel) (pa_cons (pe_callTy call_int1 (by rfl) T.n_int (by decide +kernel) (pa_cons (pv 3) pa_nil)) pa_nil)) (pe_op op_pow pe_int pe_int) (nomark _)) (pss_one (ps_expr (pe_bm PySem.F.plainAttrs_list PySem.F.slot_list_append PySem.F.type_list_append mt_append (pv 1) (pa_cons (pe_callB call_abs (by rfl) T.n_abs (by decide +kernel) (pa_cons (pe_callTy call_int1 (by rfl) T.n_int (by decide +kernel) (pa_cons (pv 3) pa_nil)) pa_nil)) pa_nil)))) (pss_one (ps_expr (pe_bm PySem.F.plainAttrs_list PySem.F.slot_list_append PySem.F.type_list_append mt_append (pv 2) (pa_cons (pe_callB call_abs (by rfl) T.n_abs (by decide +kernel) (pa_cons (pe_callTy call_int1 (by rfl) T.n_int (by decide +kernel) (pa_cons (pv 3) pa_nil)) pa_nil)) pa_nil)))))))
      (pss_cons (ps_if (pt_cmpR op_eq (pe_callB call_lenA (by rfl) T.n_len boot_len (pa_cons (pv 2) pa_nil)) pe_int (nomark _)) (pss_one (ps_expr (pe_bm PySem.F.plainAttrs_list PySem.F.slot_list_append PySem.F.type_list_append mt_append (pv 2) (pa_cons (pe_callB call_lenA (by rfl) T.n_len boot_len (pa_cons (pv 1) pa_nil)) pa_nil)))) pss_nil)
      (pss_one (ps_ret (pe_lst (pa_cons (pv 1) (pa_cons (pv 2) (pa_cons pe_int pa_nil))))))))))
theorem ok_take (T : Txt P K mg a) : FnOk P w K mg base CX0 1 a.f_take a.d_take ["pool", "most"] spTakeB := by
  refine T.F_take.ok sc_take (fun vs H Q E h => by first | (obtain ⟨rfl, _⟩ := h; rfl) | (obtain ⟨_, rfl, _⟩ := h; rfl) | (obtain ⟨_, _, rfl, _⟩ := h; rfl) | (obtain ⟨_, _, _, rfl, _⟩ := h; rfl) | (obtain ⟨_, _, _, _, rfl, _⟩ := h; rfl) | (obtain ⟨_, _, _, _, _, rfl, _⟩ := h; rfl) | (obtain ⟨_, _, _, _, _, _, rfl, _⟩ := h; rfl) | (obtain ⟨_, _, _, _, _, _, _, rfl, _⟩ := h; rfl) | (obtain ⟨_, _, _, _, _, _, _, _, rfl, _⟩ := h; rfl) | (obtain ⟨_, _, _, _, _, _, _, _, _, rfl, _⟩ := h; rfl)) (fun cdv A outer s H vs Q E hr h => ⟨t_take K, ?_, pure_takeB vs H Q E h⟩)
  exact (pss_cons (ps_if (pt_cmpR op_lt (pv 1) pe_int (nomark _)) (pss_one (ps_ret pe_int)) pss_nil)
      (pss_cons (ps_if (pt_cmpR op_gt (pe_callB call_lenA (by rfl) T.n_len boot_len (pa_cons (pe_ix ix_1 (pv 0) pe_int (fun _ _ => rfl)) pa_nil)) pe_int (nomark _)) (pss_cons (ps_set (i := 5) sc_take.nd rfl (.inl rfl) (pe_ix ix_1 (pe_ix ix_1 (pv 0) pe_int (fun _ _ => rfl)) pe_int (fun _ _ => rfl)))
      (pss_cons (ps_set (i := 6) sc_take.nd rfl (.inl rfl) (pe_callTy call_listA (by rfl) T.n_list (by decide +kernel) (pa_cons (pe_slice sl_A (pe_ix ix_1 (pv 0) pe_int (fun _ _ => rfl)) (po_some pe_int) po_none) pa_nil)))
      (pss_cons (ps_if (pt_cmpR op_gt (pe_op op_fdivF (pv 5) (pv 1)) pe_int (nomark _)) (pss_one (ps_set (i := 6) sc_take.nd rfl (.inl rfl) (pe_op op_cat (pe_lst (pa_cons (pe_op op_fdivF (pv 5) (pv 1)) pa_nil)) (pv 6)))) pss_nil)
      (pss_cons (ps_asg (pv 6) (pg_sub (pv 0) pe_int set_list))
      (pss_one (ps_ret (pe_op op_mod (pe_callTy call_int1 (by rfl) T.n_int (by decide +kernel) (pa_cons (pv 5) pa_nil)) (pv 1)))))))) pss_nil)
      (pss_cons (ps_set (i := 2) sc_take.nd rfl (.inl rfl) (pe_ix ix_1 (pv 0) pe_int (fun _ _ => rfl)))
      (pss_cons (ps_asg (pe_op op_add (pv 2) pe_int) (pg_sub (pv 0) pe_int set_list))
      (pss_cons (ps_set (i := 3) sc_take.nd rfl (.inl rfl) (pe_ix ix_1 (pe_ix ix_1 (pv 0) pe_int (fun _ _ => rfl)) (pe_op op_mod (pe_callTy call_int1 (by rfl) T.n_int (by decide +kernel) (pa_cons (pe_op op_fdivF (pv 2) pe_int) pa_nil)) (pe_callB call_lenA (by rfl) T.n_len boot_len (pa_cons (pe_ix ix_1 (pv 0) pe_int (fun _ _ => rfl)) pa_nil))) (fun _ _ => rfl)))
      (pss_cons (ps_set (i := 4) sc_take.nd rfl (.inl rfl) (pe_op op_mod (pe_callTy call_int1 (by rfl) T.n_int (by decide +kernel) (pa_cons (pe_op op_add (pe_op op_add (pe_op op_mulI (pv 3) pe_int) (pe_op op_mulI (pv 2) pe_int)) pe_int) pa_nil)) pe_int))
      (pss_cons (ps_set (i := 4) sc_take.nd rfl (.inl rfl) (pe_op op_mod (pe_callTy call_int1 (by rfl) T.n_int (by decide +kernel) (pa_cons (pe_op op_add (pe_op op_add (pe_op op_mulI (pv 4) (pv 4)) (pe_op op_mulI (pv 2) pe_int)) pe_int) pa_nil)) pe_int))
      (pss_cons (ps_set (i := 4) sc_take.nd rfl (.inl rfl) (pe_op op_mod (pe_callTy call_int1 (by rfl) T.n_int (by decide +kernel) (pa_cons (pe_op op_add (pe_op op_add (pe_op op_mulI (pv 4) (pv 4)) (pv 3)) pe_int) pa_nil)) pe_int))
      (pss_one (ps_ret (pe_op op_mod (pe_callTy call_int1 (by rfl) T.n_int (by decide +kernel) (pa_cons (pe_op op_fdivF (pv 4) pe_int) pa_nil)) (pv 1))))))))))))
theorem ok_integer (T : Txt P K mg a) : FnOk P w K mg base CX0 1 a.f_integer a.d_integer ["thing"] spInteger := by
  refine T.F_integer.ok sc_integer (fun vs H Q E h => by first | (obtain ⟨rfl, _⟩ := h; rfl) | (obtain ⟨_, rfl, _⟩ := h; rfl) | (obtain ⟨_, _, rfl, _⟩ := h; rfl) | (obtain ⟨_, _, _, rfl, _⟩ := h; rfl) | (obtain ⟨_, _, _, _, rfl, _⟩ := h; rfl) | (obtain ⟨_, _, _, _, _, rfl, _⟩ := h; rfl) | (obtain ⟨_, _, _, _, _, _, rfl, _⟩ := h; rfl) | (obtain ⟨_, _, _, _, _, _, _, rfl, _⟩ := h; rfl) | (obtain ⟨_, _, _, _, _, _, _, _, rfl, _⟩ := h; rfl) | (obtain ⟨_, _, _, _, _, _, _, _, _, rfl, _⟩ := h; rfl)) (fun cdv A outer s H vs Q E hr h => ⟨t_integer K, ?_, pure_integer vs H Q E h⟩)
  exact (pss_one (ps_ret (pe_and (pe_callB call_isi (by rfl) T.n_isinstance (by decide +kernel) (pa_cons (pv 0) (pa_cons (pe_bltn (by rfl) T.n_int (by decide +kernel) rfl) pa_nil))) (pe_one (pe_not (pe_callB call_isi (by rfl) T.n_isinstance (by decide +kernel) (pa_cons (pv 0) (pa_cons (pe_bltn (by rfl) T.n_bool (by decide +kernel) rfl) pa_nil))))))))
theorem ok_common (T : Txt P K mg a) : FnOk P w K mg base CX0 1 a.f_common a.d_common ["one", "two"] spCommon := by
  refine T.F_common.ok sc_common (fun vs H Q E h => by first | (obtain ⟨rfl, _⟩ := h; rfl) | (obtain ⟨_, rfl, _⟩ := h; rfl) | (obtain ⟨_, _, rfl, _⟩ := h; rfl) | (obtain ⟨_, _, _, rfl, _⟩ := h; rfl) | (obtain ⟨_, _, _, _, rfl, _⟩ := h; rfl) | (obtain ⟨_, _, _, _, _, rfl, _⟩ := h; rfl) | (obtain ⟨_, _, _, _, _, _, rfl, _⟩ := h; rfl) | (obtain ⟨_, _, _, _, _, _, _, rfl, _⟩ := h; rfl) | (obtain ⟨_, _, _, _, _, _, _, _, rfl, _⟩ := h; rfl) | (obtain ⟨_, _, _, _, _, _, _, _, _, rfl, _⟩ := h; rfl)) (fun cdv A outer s H vs Q E hr h => ⟨t_common K, ?_, pure_common vs H Q E h⟩)
  exact (pss_cons (ps_set (i := 0) sc_common.nd rfl (.inl rfl) (pe_callB call_abs (by rfl) T.n_abs (by decide +kernel) (pa_cons (pv 0) pa_nil)))
      (pss_cons (ps_set (i := 1) sc_common.nd rfl (.inl rfl) (pe_callB call_abs (by rfl) T.n_abs (by decide +kernel) (pa_cons (pv 1) pa_nil)))
      (pss_cons (ps_for PassesOwn.never rfl (pi_range1 rfl T.n_range (pa_cons (pe_op op_add (pe_op op_mulI pe_int (pe_bits (pv 1))) pe_int) pa_nil)) (pg_name (i := 2) sc_common.nd rfl (.inl rfl)) (pss_cons (ps_if (pt_cmpR op_eq (pv 1) pe_int (nomark _)) (pss_one (ps_ret (pv 0))) pss_nil)
      (pss_cons (ps_set (i := 3) sc_common.nd rfl (.inl rfl) (pe_op op_mod (pe_callTy call_int1 (by rfl) T.n_int (by decide +kernel) (pa_cons (pv 0) pa_nil)) (pv 1)))
      (pss_cons (ps_set (i := 0) sc_common.nd rfl (.inl rfl) (pv 1))
      (pss_one (ps_set (i := 1) sc_common.nd rfl (.inl rfl) (pv 3)))))))
      (pss_one (ps_ret (pv 0))))))
theorem ok_init (T : Txt P K mg a) : FnOk P w K mg base (L2.CX P w) 1 a.f_init a.d_init ["self", "top", "bottom"] (spInit a.C a.Z) := by
  refine T.F_init.ok sc_init (fun vs H Q E h => by first | (obtain ⟨rfl, _⟩ := h; rfl) | (obtain ⟨_, rfl, _⟩ := h; rfl) | (obtain ⟨_, _, rfl, _⟩ := h; rfl) | (obtain ⟨_, _, _, rfl, _⟩ := h; rfl) | (obtain ⟨_, _, _, _, rfl, _⟩ := h; rfl) | (obtain ⟨_, _, _, _, _, rfl, _⟩ := h; rfl) | (obtain ⟨_, _, _, _, _, _, rfl, _⟩ := h; rfl) | (obtain ⟨_, _, _, _, _, _, _, rfl, _⟩ := h; rfl) | (obtain ⟨_, _, _, _, _, _, _, _, rfl, _⟩ := h; rfl) | (obtain ⟨_, _, _, _, _, _, _, _, _, rfl, _⟩ := h; rfl)) (fun cdv A outer s H vs Q E hr h => ⟨t_init K a.C a.Z E, ?_, pure_init ⟨T.isa_Ratio.cl, T.na_top, T.na_bottom⟩ vs H Q E h⟩)
  exact (pss_cons (ps_if (pt_cmpR op_eq (pv 2) pe_int (nomark _)) (pss_one (ps_raise (W := fun cls d _ H => E cls d H) (t := fun _ H Q => Q (.ref a.Z) none H) rfl (takes_of rfl rfl rfl rfl) (pmk_own PySem.F.excBase_ValueError T.xZ T.gZ T.kZ (raises_own T.bZ T.tZ) rfl))) pss_nil)
      (pss_cons (ps_set (i := 3) sc_init.nd rfl (.inl rfl) (pe_callBfun cr_gcd (by rfl) T.g_gcd (pa_cons (pv 1) (pa_cons (pv 2) pa_nil))))
      (pss_cons (ps_if (pt_cmpR op_lt (pv 2) pe_int (nomark _)) (pss_one (ps_set (i := 3) sc_init.nd rfl (.inl rfl) (pe_un un_neg (pv 3)))) pss_nil)
      (pss_cons (ps_fld (pv 0) (pe_op op_fdivF (pv 1) (pv 3)) rfl)
      (pss_one (ps_fld (pv 0) (pe_op op_fdivF (pv 2) (pv 3)) rfl))))))
theorem ok_mul (T : Txt P K mg a) : FnOk P w K mg base CX0 3 a.f_mul a.d_mul ["self", "other"] (spBin a.C mulN) := by
  have G_init := ok_init (P := P) (w := w) (base := base) T
  refine T.F_mul.ok sc_mul (fun vs H Q E h => by first | (obtain ⟨rfl, _⟩ := h; rfl) | (obtain ⟨_, rfl, _⟩ := h; rfl) | (obtain ⟨_, _, rfl, _⟩ := h; rfl) | (obtain ⟨_, _, _, rfl, _⟩ := h; rfl) | (obtain ⟨_, _, _, _, rfl, _⟩ := h; rfl) | (obtain ⟨_, _, _, _, _, rfl, _⟩ := h; rfl) | (obtain ⟨_, _, _, _, _, _, rfl, _⟩ := h; rfl) | (obtain ⟨_, _, _, _, _, _, _, rfl, _⟩ := h; rfl) | (obtain ⟨_, _, _, _, _, _, _, _, rfl, _⟩ := h; rfl) | (obtain ⟨_, _, _, _, _, _, _, _, _, rfl, _⟩ := h; rfl)) (fun cdv A outer s H vs Q E hr h => ⟨t_mul K a.C a.Z E, ?_, pure_mul vs H Q E h⟩)
  exact (pss_cons (ps_if (pt_val (pe_callB (call_isA T.isa_Ratio) (by rfl) T.n_isinstance (by decide +kernel) (pa_cons (pv 1) (pa_cons (pe_bltn (by rfl) T.n_int (by decide +kernel) rfl) pa_nil)))) (pss_one (ps_ret (pe_make T.mk_Ratio G_init (hr.mono (by decide)) rfl T.g_Ratio T.b_init .nil passL (pa_cons (pe_op op_mulI (pe_fldA (pv 0) T.isa_Ratio.cl T.na_top rfl) (pv 1)) (pa_cons (pe_fldA (pv 0) T.isa_Ratio.cl T.na_bottom rfl) pa_nil))))) pss_nil)
      (pss_cons (ps_if (pt_not (pt_val (pe_callB (call_isA T.isa_Ratio) (by rfl) T.n_isinstance (by decide +kernel) (pa_cons (pv 1) (pa_cons (pe_glob rfl T.g_Ratio rfl) pa_nil))))) (pss_one ps_never) pss_nil)
      (pss_one (ps_ret (pe_make T.mk_Ratio G_init (hr.mono (by decide)) rfl T.g_Ratio T.b_init .nil passL (pa_cons (pe_op op_mulI (pe_fldA (pv 0) T.isa_Ratio.cl T.na_top rfl) (pe_fldA (pv 1) T.isa_Ratio.cl T.na_top rfl)) (pa_cons (pe_op op_mulI (pe_fldA (pv 0) T.isa_Ratio.cl T.na_bottom rfl) (pe_fldA (pv 1) T.isa_Ratio.cl T.na_bottom rfl)) pa_nil)))))))
theorem ok_neg (T : Txt P K mg a) : FnOk P w K mg base CX0 3 a.f_neg a.d_neg ["self"] (spUn a.C (fun t => -t)) := by
  have G_init := ok_init (P := P) (w := w) (base := base) T
  refine T.F_neg.ok sc_neg (fun vs H Q E h => by first | (obtain ⟨rfl, _⟩ := h; rfl) | (obtain ⟨_, rfl, _⟩ := h; rfl) | (obtain ⟨_, _, rfl, _⟩ := h; rfl) | (obtain ⟨_, _, _, rfl, _⟩ := h; rfl) | (obtain ⟨_, _, _, _, rfl, _⟩ := h; rfl) | (obtain ⟨_, _, _, _, _, rfl, _⟩ := h; rfl) | (obtain ⟨_, _, _, _, _, _, rfl, _⟩ := h; rfl) | (obtain ⟨_, _, _, _, _, _, _, rfl, _⟩ := h; rfl) | (obtain ⟨_, _, _, _, _, _, _, _, rfl, _⟩ := h; rfl) | (obtain ⟨_, _, _, _, _, _, _, _, _, rfl, _⟩ := h; rfl)) (fun cdv A outer s H vs Q E hr h => ⟨t_neg K a.C a.Z E, ?_, pure_neg vs H Q E h⟩)
  exact (pss_one (ps_ret (pe_make T.mk_Ratio G_init (hr.mono (by decide)) rfl T.g_Ratio T.b_init .nil passL (pa_cons (pe_un un_neg (pe_fldA (pv 0) T.isa_Ratio.cl T.na_top rfl)) (pa_cons (pe_fldA (pv 0) T.isa_Ratio.cl T.na_bottom rfl) pa_nil)))))
theorem ok_npowers (T : Txt P K mg a) : FnOk P w K mg base CX0 1 a.f_npowers a.d_npowers ["size"] spPowers := by
  refine T.F_npowers.ok sc_npowers (fun vs H Q E h => by first | (obtain ⟨rfl, _⟩ := h; rfl) | (obtain ⟨_, rfl, _⟩ := h; rfl) | (obtain ⟨_, _, rfl, _⟩ := h; rfl) | (obtain ⟨_, _, _, rfl, _⟩ := h; rfl) | (obtain ⟨_, _, _, _, rfl, _⟩ := h; rfl) | (obtain ⟨_, _, _, _, _, rfl, _⟩ := h; rfl) | (obtain ⟨_, _, _, _, _, _, rfl, _⟩ := h; rfl) | (obtain ⟨_, _, _, _, _, _, _, rfl, _⟩ := h; rfl) | (obtain ⟨_, _, _, _, _, _, _, _, rfl, _⟩ := h; rfl) | (obtain ⟨_, _, _, _, _, _, _, _, _, rfl, _⟩ := h; rfl)) (fun cdv A outer s H vs Q E hr h => ⟨t_npowers P K mg a.C a.Z a.BT a.BN E, ?_, pure_npowers vs H Q E h⟩)
  exact (pss_cons (ps_set (i := 1) sc_npowers.nd rfl (.inl rfl) (pe_gc rfl T.c_BLOCK))
      (pss_cons (ps_set (i := 2) sc_npowers.nd rfl (.inl rfl) (pe_lst pa_nil))
      (pss_cons (ps_while PassesOwn.never (pt_cmpR op_le (pv 1) (pv 0) (nomark _)) (pss_cons (ps_expr (pe_bm PySem.F.plainAttrs_list PySem.F.slot_list_append PySem.F.type_list_append mt_append (pv 2) (pa_cons (pv 1) pa_nil)))
      (pss_one (ps_set (i := 1) sc_npowers.nd rfl (.inl rfl) (pe_op op_mulI (pv 1) (pv 1))))))
      (pss_one (ps_ret (pv 2))))))
theorem ok_nwint (T : Txt P K mg a) : FnOk P w K mg base CX0 2 a.f_nwint a.d_nwint ["number"] spWint := by
  have G_npowers := ok_npowers (P := P) (w := w) (base := base) T
  refine T.F_nwint.ok sc_nwint (fun vs H Q E h => by first | (obtain ⟨rfl, _⟩ := h; rfl) | (obtain ⟨_, rfl, _⟩ := h; rfl) | (obtain ⟨_, _, rfl, _⟩ := h; rfl) | (obtain ⟨_, _, _, rfl, _⟩ := h; rfl) | (obtain ⟨_, _, _, _, rfl, _⟩ := h; rfl) | (obtain ⟨_, _, _, _, _, rfl, _⟩ := h; rfl) | (obtain ⟨_, _, _, _, _, _, rfl, _⟩ := h; rfl) | (obtain ⟨_, _, _, _, _, _, _, rfl, _⟩ := h; rfl) | (obtain ⟨_, _, _, _, _, _, _, _, rfl, _⟩ := h; rfl) | (obtain ⟨_, _, _, _, _, _, _, _, _, rfl, _⟩ := h; rfl)) (fun cdv A outer s H vs Q E hr h => ⟨t_nwint P K mg a.C a.Z a.BT a.BN E, ?_, pure_nwint vs H Q E h⟩)
  exact (pss_cons (ps_if (pt_cmpR op_lt (pe_callB call_abs (by rfl) T.n_abs (by decide +kernel) (pa_cons (pv 0) pa_nil)) (pe_gc rfl T.c_BLOCK) (nomark _)) (pss_one (ps_ret (pe_callTy call_strI (by rfl) T.n_str (by decide +kernel) (pa_cons (pv 0) pa_nil)))) pss_nil)
      (pss_cons (ps_set (i := 1) sc_nwint.nd rfl (.inl rfl) (pe_lst (pa_cons (pe_callB call_abs (by rfl) T.n_abs (by decide +kernel) (pa_cons (pv 0) pa_nil)) pa_nil)))
      (pss_cons (ps_for PassesOwn.never rfl (pi_list (pe_revL (pe_call G_npowers (hr.mono (by decide)) rfl T.g_npowers T.k_npowers T.b_npowers .nil pass0 (pa_cons (pe_callB call_abs (by rfl) T.n_abs (by decide +kernel) (pa_cons (pv 0) pa_nil)) pa_nil)))) (pg_name (i := 2) sc_nwint.nd rfl (.inr rfl)) (pss_one (ps_setLc2 (i := 1) (own := [("block", 4), ("half", 5)]) (vs1 := [5]) (g := (gName 4)) (g1 := (gName 5)) (tt := tYes) (tt1 := tYes) (by rfl) sc_nwint.nd rfl rfl (sw_true rfl rfl rfl (by decide +kernel)) (pi_list (pv 1)) (blkOk_by (own := [("block", 4), ("half", 5)]) (N := ["number", "blocks", "power", "digits", "block", "half"]) (sc := defScope s_nwint) (by decide +kernel)) (by decide) (fun _ _ _ _ _ => (pg_name (i := 4) sc_nwint.nd rfl (.inl rfl))) (fun _ _ _ _ _ => pts_nil) (fun _ _ _ _ _ => (pi_tup (pe_callB call_divmodW (by rfl) T.n_divmod (by decide +kernel) (pa_cons (pv 4) (pa_cons (pv 2) pa_nil))))) (fun _ _ _ _ _ => (pg_name (i := 5) sc_nwint.nd rfl (.inl rfl))) (fun _ _ _ _ _ => pts_nil) (fun _ _ _ _ _ => (pv 5)))))
      (pss_cons (ps_set (i := 3) sc_nwint.nd rfl (.inl rfl) (pe_m1 PySem.F.slot_str_lstrip PySem.F.type_str_lstrip mt_lstT (pe_m1 PySem.F.slot_str_join PySem.F.type_str_join mt_joinT pe_str (pe_lc (own := [("block", 4)]) (g := (gName 4)) (tt := tYes) (by rfl) sc_nwint.nd (pi_list (pv 1)) (blkOk_by (own := [("block", 4)]) (N := ["number", "blocks", "power", "digits", "block", "half"]) (sc := defScope s_nwint) (by decide +kernel)) (fun _ _ _ _ _ => (pg_name (i := 4) sc_nwint.nd rfl (.inl rfl))) (fun _ _ _ _ _ => pts_nil) (fun _ _ _ _ _ => (pe_m1 PySem.F.slot_str_zfill PySem.F.type_str_zfill mt_zfT (pe_callTy call_strI (by rfl) T.n_str (by decide +kernel) (pa_cons (pv 4) pa_nil)) (pe_gc rfl T.c_BLOCK_DIGITS))))) pe_str))
      (pss_one (ps_ret (pe_ifExp (pt_cmpR op_lt (pv 0) pe_int (nomark _)) (pe_joined (PJ.cons pe_str (PJ.cons (pe_fmt (pv 3)) PJ.nil))) (pv 3))))))))
theorem ok_ncount (T : Txt P K mg a) : FnOk P w K mg base CX0 1 a.f_ncount a.d_ncount ["text"] spCount := by
  refine T.F_ncount.ok sc_ncount (fun vs H Q E h => by first | (obtain ⟨rfl, _⟩ := h; rfl) | (obtain ⟨_, rfl, _⟩ := h; rfl) | (obtain ⟨_, _, rfl, _⟩ := h; rfl) | (obtain ⟨_, _, _, rfl, _⟩ := h; rfl) | (obtain ⟨_, _, _, _, rfl, _⟩ := h; rfl) | (obtain ⟨_, _, _, _, _, rfl, _⟩ := h; rfl) | (obtain ⟨_, _, _, _, _, _, rfl, _⟩ := h; rfl) | (obtain ⟨_, _, _, _, _, _, _, rfl, _⟩ := h; rfl) | (obtain ⟨_, _, _, _, _, _, _, _, rfl, _⟩ := h; rfl) | (obtain ⟨_, _, _, _, _, _, _, _, _, rfl, _⟩ := h; rfl)) (fun cdv A outer s H vs Q E hr h => ⟨t_ncount P K mg a.C a.Z a.BT a.BN E, ?_, pure_ncount vs H Q E h⟩)
  exact (pss_one (ps_ret (pe_and (pe_cmpR op_le (pe_callB call_lenT (by rfl) T.n_len boot_len (pa_cons (pv 0) pa_nil)) (pe_gc rfl T.c_LONGEST_READ) (nomark _)) (pe_and (pe_m0 PySem.F.slot_str_isascii PySem.F.type_str_isascii mt_ascT (pv 0)) (pe_one (pe_m0 PySem.F.slot_str_isdigit PySem.F.type_str_isdigit mt_digT (pv 0)))))))
theorem ok_nstr (T : Txt P K mg a) : FnOk P w K mg base CX0 3 a.f_nstr a.d_nstr ["self"] (spStr a.C) := by
  have G_nwint := ok_nwint (P := P) (w := w) (base := base) T
  refine T.F_nstr.ok sc_nstr (fun vs H Q E h => by first | (obtain ⟨rfl, _⟩ := h; rfl) | (obtain ⟨_, rfl, _⟩ := h; rfl) | (obtain ⟨_, _, rfl, _⟩ := h; rfl) | (obtain ⟨_, _, _, rfl, _⟩ := h; rfl) | (obtain ⟨_, _, _, _, rfl, _⟩ := h; rfl) | (obtain ⟨_, _, _, _, _, rfl, _⟩ := h; rfl) | (obtain ⟨_, _, _, _, _, _, rfl, _⟩ := h; rfl) | (obtain ⟨_, _, _, _, _, _, _, rfl, _⟩ := h; rfl) | (obtain ⟨_, _, _, _, _, _, _, _, rfl, _⟩ := h; rfl) | (obtain ⟨_, _, _, _, _, _, _, _, _, rfl, _⟩ := h; rfl)) (fun cdv A outer s H vs Q E hr h => ⟨t_nstr P K mg a.C a.Z a.BT a.BN E, ?_, pure_nstr vs H Q E h⟩)
  exact (pss_cons (ps_if (pt_cmpR op_eq (pe_fldA (pv 0) T.isa_Ratio.cl T.na_bottom rfl) pe_int (nomark _)) (pss_one (ps_ret (pe_joined1 (pe_fmt (pe_call G_nwint (hr.mono (by decide)) rfl T.g_nwint T.k_nwint T.b_nwint .nil pass0 (pa_cons (pe_fldA (pv 0) T.isa_Ratio.cl T.na_top rfl) pa_nil)))))) pss_nil)
      (pss_one (ps_ret (pe_joined (PJ.cons (pe_fmt (pe_call G_nwint (hr.mono (by decide)) rfl T.g_nwint T.k_nwint T.b_nwint .nil pass0 (pa_cons (pe_fldA (pv 0) T.isa_Ratio.cl T.na_top rfl) pa_nil))) (PJ.cons pe_str (PJ.cons (pe_fmt (pe_call G_nwint (hr.mono (by decide)) rfl T.g_nwint T.k_nwint T.b_nwint .nil pass0 (pa_cons (pe_fldA (pv 0) T.isa_Ratio.cl T.na_bottom rfl) pa_nil))) PJ.nil)))))))
theorem ok_bt (T : Txt P K mg a) : FnOk P w K mg base CX0 1 a.f_bt a.d_bt ["self", "text"] (spBT P K mg a.BT) := by
  obtain ⟨oc, od, kV, doc, pm, an, cda, cc, ct, osl, lk, hd, hc, F⟩ := T.bt
  rw [hd] at lk ⊢
  refine fn_sup (k := 0) lk hc sc_bt F rfl rfl rfl (by decide) (fun vs H Q E h => by first | (obtain ⟨rfl, _⟩ := h; rfl) | (obtain ⟨_, rfl, _⟩ := h; rfl) | (obtain ⟨_, _, rfl, _⟩ := h; rfl) | (obtain ⟨_, _, _, rfl, _⟩ := h; rfl) | (obtain ⟨_, _, _, _, rfl, _⟩ := h; rfl) | (obtain ⟨_, _, _, _, _, rfl, _⟩ := h; rfl) | (obtain ⟨_, _, _, _, _, _, rfl, _⟩ := h; rfl) | (obtain ⟨_, _, _, _, _, _, _, rfl, _⟩ := h; rfl) | (obtain ⟨_, _, _, _, _, _, _, _, rfl, _⟩ := h; rfl) | (obtain ⟨_, _, _, _, _, _, _, _, _, rfl, _⟩ := h; rfl)) (fun L => ⟨_, rfl⟩) (fun A outer s H vs Q E hr h => ?_)
  obtain ⟨a', C', h0, ea, sc, q⟩ := pure_bt vs H Q E h
  exact ⟨a', C', h0, ea, sc, _, pss_one (ps_ost (pv 0) (pv 1)), q⟩
theorem ok_nread (T : Txt P K mg a) : FnOk P w K mg base (L2.CX P w) 6 a.f_nread a.d_nread ["text"] (spRead a.C a.BN) := by
  have G_bt := ok_bt (P := P) (w := w) (base := base) T
  have G_init := ok_init (P := P) (w := w) (base := base) T
  have G_ncount := ok_ncount (P := P) (w := w) (base := base) T
  have G_neg := ok_neg (P := P) (w := w) (base := base) T
  have G_nstr := ok_nstr (P := P) (w := w) (base := base) T
  refine T.F_nread.okX sc_nread (fun vs H Q E h => by first | (obtain ⟨rfl, _⟩ := h; rfl) | (obtain ⟨_, rfl, _⟩ := h; rfl) | (obtain ⟨_, _, rfl, _⟩ := h; rfl) | (obtain ⟨_, _, _, rfl, _⟩ := h; rfl) | (obtain ⟨_, _, _, _, rfl, _⟩ := h; rfl) | (obtain ⟨_, _, _, _, _, rfl, _⟩ := h; rfl) | (obtain ⟨_, _, _, _, _, _, rfl, _⟩ := h; rfl) | (obtain ⟨_, _, _, _, _, _, _, rfl, _⟩ := h; rfl) | (obtain ⟨_, _, _, _, _, _, _, _, rfl, _⟩ := h; rfl) | (obtain ⟨_, _, _, _, _, _, _, _, _, rfl, _⟩ := h; rfl)) (fun cdv A outer s H vs Q E hr h => ⟨t_nread P K mg a.C a.Z a.BT a.BN E, ?_, pure_nread T.te_BN vs H Q E h⟩)
  exact (pss_cons (ps_asg (pe_m1 PySem.F.slot_str_partition PySem.F.type_str_partition mt_parT (pe_m1 PySem.F.slot_str_removeprefix PySem.F.type_str_removeprefix mt_preT (pv 0) pe_str) pe_str) (pg_tup rfl (pgs_cons (pg_name (i := 3) sc_nread.nd rfl (.inl rfl)) (pgs_cons (pg_name (i := 4) sc_nread.nd rfl (.inl rfl)) (pgs_cons (pg_name (i := 5) sc_nread.nd rfl (.inl rfl)) pgs_nil)))))
      (pss_cons (ps_if (pt_not (pt_truth (pv 4) (by intro _; rfl))) (pss_one (ps_set (i := 5) sc_nread.nd rfl (.inl rfl) pe_str)) pss_nil)
      (pss_cons (ps_if (PW.pt (pw_or (pt_not (pt_val (pe_call G_ncount (hr.mono (by decide)) rfl T.g_ncount T.k_ncount T.b_ncount .nil pass0 (pa_cons (pv 3) pa_nil)))) (pw_or (pt_not (pt_val (pe_call G_ncount (hr.mono (by decide)) rfl T.g_ncount T.k_ncount T.b_ncount .nil pass0 (pa_cons (pv 5) pa_nil)))) (pw_or1 (pt_cmpR op_eq (pe_callTy call_intT (by rfl) T.n_int (by decide +kernel) (pa_cons (pv 5) pa_nil)) pe_int (nomark _)))))) (pss_one (ps_raiseT (W := fun cls d _ H => E cls d H) rfl (takes_of rfl rfl rfl rfl) T.te_BN T.ti_bt G_bt (hr.mono (by decide)) T.b_bt rfl T.g_BadNumber (pv 0))) pss_nil)
      (pss_cons (ps_set (i := 1) sc_nread.nd rfl (.inl rfl) (pe_make T.mk_Ratio G_init (hr.mono (by decide)) rfl T.g_Ratio T.b_init .nil (passes_call (takes_of rfl rfl rfl rfl) (fun _ _ _ _ h => h)) (pa_cons (pe_callTy call_intT (by rfl) T.n_int (by decide +kernel) (pa_cons (pv 3) pa_nil)) (pa_cons (pe_callTy call_intT (by rfl) T.n_int (by decide +kernel) (pa_cons (pv 5) pa_nil)) pa_nil))))
      (pss_cons (ps_set (i := 2) sc_nread.nd rfl (.inl rfl) (pe_ifExp (pt_val (pe_m1 PySem.F.slot_str_startswith PySem.F.type_str_startswith mt_startT (pv 0) pe_str)) (pe_un (un_own T.o_neg T.i_neg G_neg (hr.mono (by decide)) T.b_neg pass0) (pv 1)) (pv 1)))
      (pss_cons (ps_if (pt_cmpR op_ne (pe_callTy (call_strOwn T.o_nstr T.i_nstr G_nstr (hr.mono (by decide)) T.b_nstr pass0) (by rfl) T.n_str (by decide +kernel) (pa_cons (pv 2) pa_nil)) (pv 0) (nomark _)) (pss_one (ps_raiseT (W := fun cls d _ H => E cls d H) rfl (takes_of rfl rfl rfl rfl) T.te_BN T.ti_bt G_bt (hr.mono (by decide)) T.b_bt rfl T.g_BadNumber (pv 0))) pss_nil)
      (pss_one (ps_ret (pv 2)))))))))
theorem ok_npower (T : Txt P K mg a) : FnOk P w K mg base CX0 1 a.f_npower a.d_npower ["base", "many"] spPower := by
  refine T.F_npower.ok sc_npower (fun vs H Q E h => by first | (obtain ⟨rfl, _⟩ := h; rfl) | (obtain ⟨_, rfl, _⟩ := h; rfl) | (obtain ⟨_, _, rfl, _⟩ := h; rfl) | (obtain ⟨_, _, _, rfl, _⟩ := h; rfl) | (obtain ⟨_, _, _, _, rfl, _⟩ := h; rfl) | (obtain ⟨_, _, _, _, _, rfl, _⟩ := h; rfl) | (obtain ⟨_, _, _, _, _, _, rfl, _⟩ := h; rfl) | (obtain ⟨_, _, _, _, _, _, _, rfl, _⟩ := h; rfl) | (obtain ⟨_, _, _, _, _, _, _, _, rfl, _⟩ := h; rfl) | (obtain ⟨_, _, _, _, _, _, _, _, _, rfl, _⟩ := h; rfl)) (fun cdv A outer s H vs Q E hr h => ⟨t_npower P K mg a.C a.Z a.BT a.BN E, ?_, pure_npower vs H Q E h⟩)
  exact (pss_cons (ps_set (i := 2) sc_npower.nd rfl (.inl rfl) pe_int)
      (pss_cons (ps_for PassesOwn.never rfl (pi_range1 rfl T.n_range (pa_cons (pv 1) pa_nil)) (pg_name (i := 3) sc_npower.nd rfl (.inl rfl)) (pss_one (ps_set (i := 2) sc_npower.nd rfl (.inl rfl) (pe_op op_mulI (pv 2) (pv 0)))))
      (pss_one (ps_ret (pv 2)))))
theorem ok_nsize (T : Txt P K mg a) : FnOk P w K mg base CX0 2 a.f_nsize a.d_nsize ["pool"] spSize60 := by
  have G_npower := ok_npower (P := P) (w := w) (base := base) T
  have G_take := ok_take (P := P) (w := w) (base := base) T
  refine T.F_nsize.ok sc_nsize (fun vs H Q E h => by first | (obtain ⟨rfl, _⟩ := h; rfl) | (obtain ⟨_, rfl, _⟩ := h; rfl) | (obtain ⟨_, _, rfl, _⟩ := h; rfl) | (obtain ⟨_, _, _, rfl, _⟩ := h; rfl) | (obtain ⟨_, _, _, _, rfl, _⟩ := h; rfl) | (obtain ⟨_, _, _, _, _, rfl, _⟩ := h; rfl) | (obtain ⟨_, _, _, _, _, _, rfl, _⟩ := h; rfl) | (obtain ⟨_, _, _, _, _, _, _, rfl, _⟩ := h; rfl) | (obtain ⟨_, _, _, _, _, _, _, _, rfl, _⟩ := h; rfl) | (obtain ⟨_, _, _, _, _, _, _, _, _, rfl, _⟩ := h; rfl)) (fun cdv A outer s H vs Q E hr h => ⟨t_nsize P K mg a.C a.Z a.BT a.BN E, ?_, pure_nsize vs H Q E h⟩)
  exact (pss_cons (ps_set (i := 1) sc_nsize.nd rfl (.inl rfl) (pe_call G_take (hr.mono (by decide)) rfl T.g_take T.k_take T.b_take .nil pass0 (pa_cons (pv 0) (pa_cons pe_int pa_nil))))
      (pss_cons (ps_if (pt_cmpR op_eq (pv 1) pe_int (nomark _)) (pss_one (ps_ret (pe_call G_take (hr.mono (by decide)) rfl T.g_take T.k_take T.b_take .nil pass0 (pa_cons (pv 0) (pa_cons pe_int pa_nil))))) pss_nil)
      (pss_cons (ps_if (pt_cmpR op_eq (pv 1) pe_int (nomark _)) (pss_one (ps_ret (pe_call G_take (hr.mono (by decide)) rfl T.g_take T.k_take T.b_take .nil pass0 (pa_cons (pv 0) (pa_cons pe_int pa_nil))))) pss_nil)
      (pss_cons (ps_if (pt_cmpR op_eq (pv 1) pe_int (nomark _)) (pss_one (ps_ret (pe_call G_take (hr.mono (by decide)) rfl T.g_take T.k_take T.b_take .nil pass0 (pa_cons (pv 0) (pa_cons (pe_op op_pow pe_int pe_int) pa_nil))))) pss_nil)
      (pss_cons (ps_if (pt_cmpR op_eq (pv 1) pe_int (nomark _)) (pss_one (ps_ret (pe_op op_mulI (pe_op op_add pe_int (pe_call G_take (hr.mono (by decide)) rfl T.g_take T.k_take T.b_take .nil pass0 (pa_cons (pv 0) (pa_cons pe_int pa_nil)))) (pe_call G_npower (hr.mono (by decide)) rfl T.g_npower T.k_npower T.b_npower .nil pass0 (pa_cons pe_int (pa_cons (pe_call G_take (hr.mono (by decide)) rfl T.g_take T.k_take T.b_take .nil pass0 (pa_cons (pv 0) (pa_cons pe_int pa_nil))) pa_nil)))))) pss_nil)
      (pss_cons (ps_set (i := 2) sc_nsize.nd rfl (.inl rfl) pe_int)
      (pss_cons (ps_for PassesOwn.never rfl (pi_range1 rfl T.n_range (pa_cons pe_int pa_nil)) (pg_name (i := 3) sc_nsize.nd rfl (.inl rfl)) (pss_one (ps_set (i := 2) sc_nsize.nd rfl (.inl rfl) (pe_op op_add (pe_op op_mulI (pv 2) (pe_op op_pow pe_int pe_int)) (pe_call G_take (hr.mono (by decide)) rfl T.g_take T.k_take T.b_take .nil pass0 (pa_cons (pv 0) (pa_cons (pe_op op_pow pe_int pe_int) pa_nil)))))))
      (pss_one (ps_ret (pe_op op_mod (pe_callTy call_int1 (by rfl) T.n_int (by decide +kernel) (pa_cons (pv 2) pa_nil)) (pe_op op_pow pe_int pe_int)))))))))))
theorem ok_nlowest (T : Txt P K mg a) : FnOk P w K mg base CX0 2 a.f_nlowest a.d_nlowest ["above", "below"] spLowest := by
  have G_common := ok_common (P := P) (w := w) (base := base) T
  refine T.F_nlowest.ok sc_nlowest (fun vs H Q E h => by first | (obtain ⟨rfl, _⟩ := h; rfl) | (obtain ⟨_, rfl, _⟩ := h; rfl) | (obtain ⟨_, _, rfl, _⟩ := h; rfl) | (obtain ⟨_, _, _, rfl, _⟩ := h; rfl) | (obtain ⟨_, _, _, _, rfl, _⟩ := h; rfl) | (obtain ⟨_, _, _, _, _, rfl, _⟩ := h; rfl) | (obtain ⟨_, _, _, _, _, _, rfl, _⟩ := h; rfl) | (obtain ⟨_, _, _, _, _, _, _, rfl, _⟩ := h; rfl) | (obtain ⟨_, _, _, _, _, _, _, _, rfl, _⟩ := h; rfl) | (obtain ⟨_, _, _, _, _, _, _, _, _, rfl, _⟩ := h; rfl)) (fun cdv A outer s H vs Q E hr h => ⟨t_nlowest P K mg a.C a.Z a.BT a.BN E, ?_, pure_nlowest vs H Q E h⟩)
  exact (pss_cons (ps_set (i := 2) sc_nlowest.nd rfl (.inl rfl) (pe_call G_common (hr.mono (by decide)) rfl T.g_common T.k_common T.b_common .nil pass0 (pa_cons (pv 0) (pa_cons (pv 1) pa_nil))))
      (pss_one (ps_ret (pe_tup (pa_cons (pe_op op_fdivF (pv 0) (pv 2)) (pa_cons (pe_op op_fdivF (pv 1) (pv 2)) pa_nil))))))
theorem ok_ndrawn (T : Txt P K mg a) : FnOk P w K mg base CX0 3 a.f_ndrawn a.d_ndrawn ["pool"] spDrawn := by
  have G_nlowest := ok_nlowest (P := P) (w := w) (base := base) T
  have G_nsize := ok_nsize (P := P) (w := w) (base := base) T
  have G_take := ok_take (P := P) (w := w) (base := base) T
  refine T.F_ndrawn.ok sc_ndrawn (fun vs H Q E h => by first | (obtain ⟨rfl, _⟩ := h; rfl) | (obtain ⟨_, rfl, _⟩ := h; rfl) | (obtain ⟨_, _, rfl, _⟩ := h; rfl) | (obtain ⟨_, _, _, rfl, _⟩ := h; rfl) | (obtain ⟨_, _, _, _, rfl, _⟩ := h; rfl) | (obtain ⟨_, _, _, _, _, rfl, _⟩ := h; rfl) | (obtain ⟨_, _, _, _, _, _, rfl, _⟩ := h; rfl) | (obtain ⟨_, _, _, _, _, _, _, rfl, _⟩ := h; rfl) | (obtain ⟨_, _, _, _, _, _, _, _, rfl, _⟩ := h; rfl) | (obtain ⟨_, _, _, _, _, _, _, _, _, rfl, _⟩ := h; rfl)) (fun cdv A outer s H vs Q E hr h => ⟨t_ndrawn P K mg a.C a.Z a.BT a.BN E, ?_, pure_ndrawn vs H Q E h⟩)
  exact (pss_cons (ps_set (i := 1) sc_ndrawn.nd rfl (.inl rfl) (pe_call G_nsize (hr.mono (by decide)) rfl T.g_nsize T.k_nsize T.b_nsize .nil pass0 (pa_cons (pv 0) pa_nil)))
      (pss_cons (ps_set (i := 2) sc_ndrawn.nd rfl (.inl rfl) pe_int)
      (pss_cons (ps_if (pt_cmpR op_eq (pe_call G_take (hr.mono (by decide)) rfl T.g_take T.k_take T.b_take .nil pass0 (pa_cons (pv 0) (pa_cons pe_int pa_nil))) pe_int (nomark _)) (pss_one (ps_set (i := 2) sc_ndrawn.nd rfl (.inl rfl) (pe_callB (call_max2 rfl) (by rfl) T.n_max (by decide +kernel) (pa_cons pe_int (pa_cons (pe_call G_nsize (hr.mono (by decide)) rfl T.g_nsize T.k_nsize T.b_nsize .nil pass0 (pa_cons (pv 0) pa_nil)) pa_nil))))) pss_nil)
      (pss_cons (ps_if (pt_cmpR op_eq (pe_call G_take (hr.mono (by decide)) rfl T.g_take T.k_take T.b_take .nil pass0 (pa_cons (pv 0) (pa_cons pe_int pa_nil))) pe_int (nomark _)) (pss_one (ps_set (i := 1) sc_ndrawn.nd rfl (.inl rfl) (pe_un un_neg (pv 1)))) pss_nil)
      (pss_one (ps_ret (pe_call G_nlowest (hr.mono (by decide)) rfl T.g_nlowest T.k_nlowest T.b_nlowest .nil pass0 (pa_cons (pv 1) (pa_cons (pv 2) pa_nil)))))))))
theorem ok_nwritten (T : Txt P K mg a) : FnOk P w K mg base CX0 1 a.f_nwritten a.d_nwritten ["pair"] spWritten := by
  refine T.F_nwritten.ok sc_nwritten (fun vs H Q E h => by first | (obtain ⟨rfl, _⟩ := h; rfl) | (obtain ⟨_, rfl, _⟩ := h; rfl) | (obtain ⟨_, _, rfl, _⟩ := h; rfl) | (obtain ⟨_, _, _, rfl, _⟩ := h; rfl) | (obtain ⟨_, _, _, _, rfl, _⟩ := h; rfl) | (obtain ⟨_, _, _, _, _, rfl, _⟩ := h; rfl) | (obtain ⟨_, _, _, _, _, _, rfl, _⟩ := h; rfl) | (obtain ⟨_, _, _, _, _, _, _, rfl, _⟩ := h; rfl) | (obtain ⟨_, _, _, _, _, _, _, _, rfl, _⟩ := h; rfl) | (obtain ⟨_, _, _, _, _, _, _, _, _, rfl, _⟩ := h; rfl)) (fun cdv A outer s H vs Q E hr h => ⟨t_nwritten P K mg a.C a.Z a.BT a.BN E, ?_, pure_nwritten vs H Q E h⟩)
  exact (pss_cons (ps_if (pt_cmpR op_eq (pe_ix ix_1 (pv 0) pe_int (fun _ _ => rfl)) pe_int (nomark _)) (pss_one (ps_ret (pe_callTy call_strI (by rfl) T.n_str (by decide +kernel) (pa_cons (pe_ix ix_1 (pv 0) pe_int (fun _ _ => rfl)) pa_nil)))) pss_nil)
      (pss_one (ps_ret (pe_op op_addT (pe_op op_addT (pe_callTy call_strI (by rfl) T.n_str (by decide +kernel) (pa_cons (pe_ix ix_1 (pv 0) pe_int (fun _ _ => rfl)) pa_nil)) pe_str) (pe_callTy call_strI (by rfl) T.n_str (by decide +kernel) (pa_cons (pe_ix ix_1 (pv 0) pe_int (fun _ _ => rfl)) pa_nil))))))
theorem ok_ngroup (T : Txt P K mg a) : FnOk P w K mg base CX0 1 a.f_ngroup a.d_ngroup ["text"] spGroup := by
  refine T.F_ngroup.ok sc_ngroup (fun vs H Q E h => by first | (obtain ⟨rfl, _⟩ := h; rfl) | (obtain ⟨_, rfl, _⟩ := h; rfl) | (obtain ⟨_, _, rfl, _⟩ := h; rfl) | (obtain ⟨_, _, _, rfl, _⟩ := h; rfl) | (obtain ⟨_, _, _, _, rfl, _⟩ := h; rfl) | (obtain ⟨_, _, _, _, _, rfl, _⟩ := h; rfl) | (obtain ⟨_, _, _, _, _, _, rfl, _⟩ := h; rfl) | (obtain ⟨_, _, _, _, _, _, _, rfl, _⟩ := h; rfl) | (obtain ⟨_, _, _, _, _, _, _, _, rfl, _⟩ := h; rfl) | (obtain ⟨_, _, _, _, _, _, _, _, _, rfl, _⟩ := h; rfl)) (fun cdv A outer s H vs Q E hr h => ⟨t_ngroup P K mg a.C a.Z a.BT a.BN E, ?_, pure_ngroup vs H Q E h⟩)
  exact (pss_cons (ps_if (PW.pt (pw_or (pt_cmpR op_lt (pe_callB call_lenT (by rfl) T.n_len boot_len (pa_cons (pv 0) pa_nil)) pe_int (nomark _)) (pw_or (pt_cmpR op_gt (pe_callB call_lenT (by rfl) T.n_len boot_len (pa_cons (pv 0) pa_nil)) pe_int (nomark _)) (pw_or1 (PW.pt (pw_and (pt_cmpR op_gt (pe_callB call_lenT (by rfl) T.n_len boot_len (pa_cons (pv 0) pa_nil)) pe_int (nomark _)) (pw_and1 (pt_cmpR op_eq (pe_ix ix_str (pv 0) pe_int (fun _ _ => rfl)) pe_str (nomark _))))))))) (pss_one (ps_ret (pe_un un_neg pe_int))) pss_nil)
      (pss_cons (ps_set (i := 1) sc_ngroup.nd rfl (.inl rfl) pe_int)
      (pss_cons (ps_for PassesOwn.never rfl (pi_str (pv 0)) (pg_name (i := 2) sc_ngroup.nd rfl (.inl rfl)) (pss_cons (ps_set (i := 3) sc_ngroup.nd rfl (.inl rfl) (pe_m1 PySem.F.slot_str_find PySem.F.type_str_find mt_findT pe_str (pv 2)))
      (pss_cons (ps_if (pt_cmpR op_lt (pv 3) pe_int (nomark _)) (pss_one (ps_ret (pe_un un_neg pe_int))) pss_nil)
      (pss_one (ps_set (i := 1) sc_ngroup.nd rfl (.inl rfl) (pe_op op_add (pe_op op_mulI (pv 1) pe_int) (pv 3)))))))
      (pss_one (ps_ret (pv 1))))))
theorem ok_njudged (T : Txt P K mg a) : FnOk P w K mg base CX0 2 a.f_njudged a.d_njudged ["text"] spJudged := by
  have G_common := ok_common (P := P) (w := w) (base := base) T
  have G_ngroup := ok_ngroup (P := P) (w := w) (base := base) T
  refine T.F_njudged.ok sc_njudged (fun vs H Q E h => by first | (obtain ⟨rfl, _⟩ := h; rfl) | (obtain ⟨_, rfl, _⟩ := h; rfl) | (obtain ⟨_, _, rfl, _⟩ := h; rfl) | (obtain ⟨_, _, _, rfl, _⟩ := h; rfl) | (obtain ⟨_, _, _, _, rfl, _⟩ := h; rfl) | (obtain ⟨_, _, _, _, _, rfl, _⟩ := h; rfl) | (obtain ⟨_, _, _, _, _, _, rfl, _⟩ := h; rfl) | (obtain ⟨_, _, _, _, _, _, _, rfl, _⟩ := h; rfl) | (obtain ⟨_, _, _, _, _, _, _, _, rfl, _⟩ := h; rfl) | (obtain ⟨_, _, _, _, _, _, _, _, _, rfl, _⟩ := h; rfl)) (fun cdv A outer s H vs Q E hr h => ⟨t_njudged P K mg a.C a.Z a.BT a.BN E, ?_, pure_njudged vs H Q E h⟩)
  exact (pss_cons (ps_set (i := 1) sc_njudged.nd rfl (.inl rfl) (pv 0))
      (pss_cons (ps_if (pt_cmpR op_eq (pe_slice sl_str (pv 0) po_none (po_some pe_int)) pe_str (nomark _)) (pss_one (ps_set (i := 1) sc_njudged.nd rfl (.inl rfl) (pe_slice sl_str (pv 0) (po_some pe_int) po_none))) pss_nil)
      (pss_cons (ps_set (i := 2) sc_njudged.nd rfl (.inl rfl) (pe_m1 PySem.F.slot_str_split PySem.F.type_str_split mt_splT (pv 1) pe_str))
      (pss_cons (ps_set (i := 3) sc_njudged.nd rfl (.inl rfl) (pe_call G_ngroup (hr.mono (by decide)) rfl T.g_ngroup T.k_ngroup T.b_ngroup .nil pass0 (pa_cons (pe_ix ix_1 (pv 2) pe_int (fun _ _ => rfl)) pa_nil)))
      (pss_cons (ps_if (PW.pt (pw_or (pt_cmpR op_gt (pe_callB call_lenA (by rfl) T.n_len boot_len (pa_cons (pv 2) pa_nil)) pe_int (nomark _)) (pw_or1 (pt_cmpR op_lt (pv 3) pe_int (nomark _))))) (pss_one (ps_ret pe_non)) pss_nil)
      (pss_cons (ps_set (i := 4) sc_njudged.nd rfl (.inl rfl) pe_int)
      (pss_cons (ps_if (pt_cmpR op_eq (pe_callB call_lenA (by rfl) T.n_len boot_len (pa_cons (pv 2) pa_nil)) pe_int (nomark _)) (pss_cons (ps_set (i := 4) sc_njudged.nd rfl (.inl rfl) (pe_call G_ngroup (hr.mono (by decide)) rfl T.g_ngroup T.k_ngroup T.b_ngroup .nil pass0 (pa_cons (pe_ix ix_1 (pv 2) pe_int (fun _ _ => rfl)) pa_nil)))
      (pss_one (ps_if (PW.pt (pw_or (pt_cmpR op_lt (pv 4) pe_int (nomark _)) (pw_or1 (pt_cmpR op_ne (pe_call G_common (hr.mono (by decide)) rfl T.g_common T.k_common T.b_common .nil pass0 (pa_cons (pv 3) (pa_cons (pv 4) pa_nil))) pe_int (nomark _))))) (pss_one (ps_ret pe_non)) pss_nil))) pss_nil)
      (pss_cons (ps_if (pt_cmpR op_eq (pv 1) (pv 0) (nomark _)) (pss_one (ps_ret (pe_tup (pa_cons (pv 3) (pa_cons (pv 4) pa_nil))))) pss_nil)
      (pss_cons (ps_if (pt_cmpR op_eq (pv 3) pe_int (nomark _)) (pss_one (ps_ret pe_non)) pss_nil)
      (pss_one (ps_ret (pe_tup (pa_cons (pe_un un_neg (pv 3)) (pa_cons (pv 4) pa_nil))))))))))))))
theorem ok_nmark (T : Txt P K mg a) : FnOk P w K mg base CX0 2 a.f_nmark a.d_nmark ["pool"] spMark := by
  have G_take := ok_take (P := P) (w := w) (base := base) T
  refine T.F_nmark.ok sc_nmark (fun vs H Q E h => by first | (obtain ⟨rfl, _⟩ := h; rfl) | (obtain ⟨_, rfl, _⟩ := h; rfl) | (obtain ⟨_, _, rfl, _⟩ := h; rfl) | (obtain ⟨_, _, _, rfl, _⟩ := h; rfl) | (obtain ⟨_, _, _, _, rfl, _⟩ := h; rfl) | (obtain ⟨_, _, _, _, _, rfl, _⟩ := h; rfl) | (obtain ⟨_, _, _, _, _, _, rfl, _⟩ := h; rfl) | (obtain ⟨_, _, _, _, _, _, _, rfl, _⟩ := h; rfl) | (obtain ⟨_, _, _, _, _, _, _, _, rfl, _⟩ := h; rfl) | (obtain ⟨_, _, _, _, _, _, _, _, _, rfl, _⟩ := h; rfl)) (fun cdv A outer s H vs Q E hr h => ⟨t_nmark P K mg a.C a.Z a.BT a.BN E, ?_, pure_nmark vs H Q E h⟩)
  exact (pss_cons (ps_set (i := 1) sc_nmark.nd rfl (.inl rfl) pe_str)
      (pss_cons (ps_set (i := 1) sc_nmark.nd rfl (.inl rfl) (pe_op op_addT (pv 1) pe_str))
      (pss_one (ps_ret (pe_ix ix_str (pv 1) (pe_call G_take (hr.mono (by decide)) rfl T.g_take T.k_take T.b_take .nil pass0 (pa_cons (pv 0) (pa_cons pe_int pa_nil))) (fun _ _ => rfl))))))
theorem ok_nlong (T : Txt P K mg a) : FnOk P w K mg base CX0 2 a.f_nlong a.d_nlong ["pool"] spLong := by
  have G_take := ok_take (P := P) (w := w) (base := base) T
  refine T.F_nlong.ok sc_nlong (fun vs H Q E h => by first | (obtain ⟨rfl, _⟩ := h; rfl) | (obtain ⟨_, rfl, _⟩ := h; rfl) | (obtain ⟨_, _, rfl, _⟩ := h; rfl) | (obtain ⟨_, _, _, rfl, _⟩ := h; rfl) | (obtain ⟨_, _, _, _, rfl, _⟩ := h; rfl) | (obtain ⟨_, _, _, _, _, rfl, _⟩ := h; rfl) | (obtain ⟨_, _, _, _, _, _, rfl, _⟩ := h; rfl) | (obtain ⟨_, _, _, _, _, _, _, rfl, _⟩ := h; rfl) | (obtain ⟨_, _, _, _, _, _, _, _, rfl, _⟩ := h; rfl) | (obtain ⟨_, _, _, _, _, _, _, _, _, rfl, _⟩ := h; rfl)) (fun cdv A outer s H vs Q E hr h => ⟨t_nlong P K mg a.C a.Z a.BT a.BN E, ?_, pure_nlong vs H Q E h⟩)
  exact (pss_cons (ps_set (i := 1) sc_nlong.nd rfl (.inl rfl) (pe_ix ix_1 (pe_lst (pa_cons pe_int (pa_cons pe_int (pa_cons pe_int (pa_cons pe_int (pa_cons pe_int (pa_cons pe_int (pa_cons pe_int (pa_cons pe_int pa_nil))))))))) (pe_call G_take (hr.mono (by decide)) rfl T.g_take T.k_take T.b_take .nil pass0 (pa_cons (pv 0) (pa_cons pe_int pa_nil))) (fun _ _ => rfl)))
      (pss_cons (ps_set (i := 2) sc_nlong.nd rfl (.inl rfl) (pe_callTy call_strI (by rfl) T.n_str (by decide +kernel) (pa_cons (pe_op op_add pe_int (pe_call G_take (hr.mono (by decide)) rfl T.g_take T.k_take T.b_take .nil pass0 (pa_cons (pv 0) (pa_cons (pe_op op_pow pe_int pe_int) pa_nil)))) pa_nil)))
      (pss_cons (ps_set (i := 3) sc_nlong.nd rfl (.inl rfl) (pe_slice sl_str (pe_op op_mulS (pv 2) (pe_op op_add pe_int (pe_op op_fdivF (pv 1) (pe_callB call_lenT (by rfl) T.n_len boot_len (pa_cons (pv 2) pa_nil))))) po_none (po_some (pv 1))))
      (pss_one (ps_ret (pe_ix ix_1 (pe_lst (pa_cons (pv 3) (pa_cons (pe_op op_addT pe_str (pv 3)) (pa_cons (pe_op op_addT (pv 3) pe_str) (pa_cons (pe_op op_addT pe_str (pv 3)) pa_nil))))) (pe_call G_take (hr.mono (by decide)) rfl T.g_take T.k_take T.b_take .nil pass0 (pa_cons (pv 0) (pa_cons pe_int pa_nil))) (fun _ _ => rfl)))))))
theorem ok_nspoilt (T : Txt P K mg a) : FnOk P w K mg base CX0 3 a.f_nspoilt a.d_nspoilt ["pool", "pair"] spSpoilt := by
  have G_nmark := ok_nmark (P := P) (w := w) (base := base) T
  have G_nwritten := ok_nwritten (P := P) (w := w) (base := base) T
  have G_take := ok_take (P := P) (w := w) (base := base) T
  refine T.F_nspoilt.ok sc_nspoilt (fun vs H Q E h => by first | (obtain ⟨rfl, _⟩ := h; rfl) | (obtain ⟨_, rfl, _⟩ := h; rfl) | (obtain ⟨_, _, rfl, _⟩ := h; rfl) | (obtain ⟨_, _, _, rfl, _⟩ := h; rfl) | (obtain ⟨_, _, _, _, rfl, _⟩ := h; rfl) | (obtain ⟨_, _, _, _, _, rfl, _⟩ := h; rfl) | (obtain ⟨_, _, _, _, _, _, rfl, _⟩ := h; rfl) | (obtain ⟨_, _, _, _, _, _, _, rfl, _⟩ := h; rfl) | (obtain ⟨_, _, _, _, _, _, _, _, rfl, _⟩ := h; rfl) | (obtain ⟨_, _, _, _, _, _, _, _, _, rfl, _⟩ := h; rfl)) (fun cdv A outer s H vs Q E hr h => ⟨t_nspoilt P K mg a.C a.Z a.BT a.BN E, ?_, pure_nspoilt vs H Q E h⟩)
  exact (pss_cons (ps_set (i := 2) sc_nspoilt.nd rfl (.inl rfl) (pe_call G_nwritten (hr.mono (by decide)) rfl T.g_nwritten T.k_nwritten T.b_nwritten .nil pass0 (pa_cons (pv 1) pa_nil)))
      (pss_cons (ps_set (i := 3) sc_nspoilt.nd rfl (.inl rfl) (pe_call G_take (hr.mono (by decide)) rfl T.g_take T.k_take T.b_take .nil pass0 (pa_cons (pv 0) (pa_cons pe_int pa_nil))))
      (pss_cons (ps_set (i := 4) sc_nspoilt.nd rfl (.inl rfl) (pe_call G_take (hr.mono (by decide)) rfl T.g_take T.k_take T.b_take .nil pass0 (pa_cons (pv 0) (pa_cons (pe_op op_add (pe_callB call_lenT (by rfl) T.n_len boot_len (pa_cons (pv 2) pa_nil)) pe_int) pa_nil))))
      (pss_cons (ps_if (pt_cmpR op_eq (pv 3) pe_int (nomark _)) (pss_one (ps_ret (pe_op op_addT (pe_op op_addT (pe_slice sl_str (pv 2) po_none (po_some (pv 4))) (pe_call G_nmark (hr.mono (by decide)) rfl T.g_nmark T.k_nmark T.b_nmark .nil pass0 (pa_cons (pv 0) pa_nil))) (pe_slice sl_str (pv 2) (po_some (pv 4)) po_none)))) pss_nil)
      (pss_cons (ps_if (pt_cmpR op_eq (pv 3) pe_int (nomark _)) (pss_one (ps_ret (pe_op op_addT (pe_slice sl_str (pv 2) po_none (po_some (pv 4))) (pe_slice sl_str (pv 2) (po_some (pe_op op_add (pv 4) pe_int)) po_none)))) pss_nil)
      (pss_cons (ps_if (pt_cmpR op_eq (pv 3) pe_int (nomark _)) (pss_one (ps_ret (pe_op op_addT (pe_op op_addT (pe_slice sl_str (pv 2) po_none (po_some (pv 4))) (pe_call G_nmark (hr.mono (by decide)) rfl T.g_nmark T.k_nmark T.b_nmark .nil pass0 (pa_cons (pv 0) pa_nil))) (pe_slice sl_str (pv 2) (po_some (pe_op op_add (pv 4) pe_int)) po_none)))) pss_nil)
      (pss_cons (ps_if (PW.pt (pw_or (pt_cmpR op_eq (pv 3) pe_int (nomark _)) (pw_or1 (pt_cmpR op_eq (pv 3) pe_int (nomark _))))) (pss_cons (ps_set (i := 5) sc_nspoilt.nd rfl (.inl rfl) (pe_callTy call_int1 (by rfl) T.n_int (by decide +kernel) (pa_cons (pe_cmpR op_lt (pe_ix ix_1 (pv 1) pe_int (fun _ _ => rfl)) pe_int (nomark _)) pa_nil)))
      (pss_cons (ps_if (PW.pt (pw_and (pt_cmpR op_eq (pv 3) pe_int (nomark _)) (pw_and1 (pt_cmpR op_ne (pe_ix ix_1 (pv 1) pe_int (fun _ _ => rfl)) pe_int (nomark _))))) (pss_one (ps_set (i := 5) sc_nspoilt.nd rfl (.inl rfl) (pe_op op_add (pe_m1 PySem.F.slot_str_find PySem.F.type_str_find mt_findT (pv 2) pe_str) pe_int))) pss_nil)
      (pss_one (ps_ret (pe_op op_addT (pe_op op_addT (pe_slice sl_str (pv 2) po_none (po_some (pv 5))) pe_str) (pe_slice sl_str (pv 2) (po_some (pv 5)) po_none)))))) pss_nil)
      (pss_cons (ps_if (pt_cmpR op_eq (pv 3) pe_int (nomark _)) (pss_one (ps_ret (pe_op op_addT (pv 2) (pe_ix ix_1 (pe_lst (pa_cons pe_str (pa_cons pe_str (pa_cons pe_str (pa_cons pe_str (pa_cons pe_str (pa_cons (pe_op op_addT pe_str (pv 2)) pa_nil))))))) (pe_call G_take (hr.mono (by decide)) rfl T.g_take T.k_take T.b_take .nil pass0 (pa_cons (pv 0) (pa_cons pe_int pa_nil))) (fun _ _ => rfl))))) pss_nil)
      (pss_cons (ps_if (pt_cmpR op_eq (pv 3) pe_int (nomark _)) (pss_one (ps_ret (pe_op op_addT (pe_ix ix_1 (pe_lst (pa_cons pe_str (pa_cons pe_str (pa_cons pe_str (pa_cons pe_str (pa_cons pe_str pa_nil)))))) (pe_call G_take (hr.mono (by decide)) rfl T.g_take T.k_take T.b_take .nil pass0 (pa_cons (pv 0) (pa_cons pe_int pa_nil))) (fun _ _ => rfl)) (pv 2)))) pss_nil)
      (pss_cons (ps_if (pt_cmpR op_eq (pv 3) pe_int (nomark _)) (pss_one (ps_ret (pe_op op_addT (pv 2) (pe_ix ix_1 (pe_lst (pa_cons pe_str (pa_cons pe_str (pa_cons pe_str (pa_cons pe_str (pa_cons pe_str (pa_cons pe_str pa_nil))))))) (pe_call G_take (hr.mono (by decide)) rfl T.g_take T.k_take T.b_take .nil pass0 (pa_cons (pv 0) (pa_cons pe_int pa_nil))) (fun _ _ => rfl))))) pss_nil)
      (pss_cons (ps_if (pt_cmpR op_eq (pv 3) pe_int (nomark _)) (pss_cons (ps_set (i := 6) sc_nspoilt.nd rfl (.inl rfl) (pe_op op_add pe_int (pe_call G_take (hr.mono (by decide)) rfl T.g_take T.k_take T.b_take .nil pass0 (pa_cons (pv 0) (pa_cons pe_int pa_nil)))))
      (pss_one (ps_ret (pe_op op_addT (pe_op op_addT (pe_callTy call_strI (by rfl) T.n_str (by decide +kernel) (pa_cons (pe_op op_mulI (pe_ix ix_1 (pv 1) pe_int (fun _ _ => rfl)) (pv 6)) pa_nil)) pe_str) (pe_callTy call_strI (by rfl) T.n_str (by decide +kernel) (pa_cons (pe_op op_mulI (pe_ix ix_1 (pv 1) pe_int (fun _ _ => rfl)) (pv 6)) pa_nil)))))) pss_nil)
      (pss_one (ps_ret (pv 2))))))))))))))
theorem ok_ntext (T : Txt P K mg a) : FnOk P w K mg base CX0 4 a.f_ntext a.d_ntext ["pool", "pair"] spText := by
  have G_nlong := ok_nlong (P := P) (w := w) (base := base) T
  have G_nmark := ok_nmark (P := P) (w := w) (base := base) T
  have G_nspoilt := ok_nspoilt (P := P) (w := w) (base := base) T
  have G_take := ok_take (P := P) (w := w) (base := base) T
  refine T.F_ntext.ok sc_ntext (fun vs H Q E h => by first | (obtain ⟨rfl, _⟩ := h; rfl) | (obtain ⟨_, rfl, _⟩ := h; rfl) | (obtain ⟨_, _, rfl, _⟩ := h; rfl) | (obtain ⟨_, _, _, rfl, _⟩ := h; rfl) | (obtain ⟨_, _, _, _, rfl, _⟩ := h; rfl) | (obtain ⟨_, _, _, _, _, rfl, _⟩ := h; rfl) | (obtain ⟨_, _, _, _, _, _, rfl, _⟩ := h; rfl) | (obtain ⟨_, _, _, _, _, _, _, rfl, _⟩ := h; rfl) | (obtain ⟨_, _, _, _, _, _, _, _, rfl, _⟩ := h; rfl) | (obtain ⟨_, _, _, _, _, _, _, _, _, rfl, _⟩ := h; rfl)) (fun cdv A outer s H vs Q E hr h => ⟨t_ntext P K mg a.C a.Z a.BT a.BN E, ?_, pure_ntext vs H Q E h⟩)
  exact (pss_cons (ps_set (i := 2) sc_ntext.nd rfl (.inl rfl) (pe_call G_take (hr.mono (by decide)) rfl T.g_take T.k_take T.b_take .nil pass0 (pa_cons (pv 0) (pa_cons pe_int pa_nil))))
      (pss_cons (ps_if (pt_cmpR op_eq (pv 2) pe_int (nomark _)) (pss_one (ps_ret (pe_m1 PySem.F.slot_str_join PySem.F.type_str_join mt_joinT pe_str (pe_lc (own := [("k", 3)]) (g := (gName 3)) (tt := tYes) (by rfl) sc_ntext.nd (pi_range1 rfl T.n_range (pa_cons (pe_call G_take (hr.mono (by decide)) rfl T.g_take T.k_take T.b_take .nil pass0 (pa_cons (pv 0) (pa_cons pe_int pa_nil))) pa_nil)) (blkOk_by (own := [("k", 3)]) (N := ["pool", "pair", "kind", "k"]) (sc := defScope s_ntext) (by decide +kernel)) (fun _ _ _ _ _ => (pg_name (i := 3) sc_ntext.nd rfl (.inl rfl))) (fun _ _ _ _ _ => pts_nil) (fun _ _ _ _ _ => (pe_call G_nmark (hr.mono (by decide)) rfl T.g_nmark T.k_nmark T.b_nmark .nil pass0 (pa_cons (pv 0) pa_nil))))))) pss_nil)
      (pss_cons (ps_if (pt_cmpR op_eq (pv 2) pe_int (nomark _)) (pss_one (ps_ret (pe_m1 PySem.F.slot_str_join PySem.F.type_str_join mt_joinT pe_str (pe_lc (own := [("k", 3)]) (g := (gName 3)) (tt := tYes) (by rfl) sc_ntext.nd (pi_range1 rfl T.n_range (pa_cons (pe_call G_take (hr.mono (by decide)) rfl T.g_take T.k_take T.b_take .nil pass0 (pa_cons (pv 0) (pa_cons pe_int pa_nil))) pa_nil)) (blkOk_by (own := [("k", 3)]) (N := ["pool", "pair", "kind", "k"]) (sc := defScope s_ntext) (by decide +kernel)) (fun _ _ _ _ _ => (pg_name (i := 3) sc_ntext.nd rfl (.inl rfl))) (fun _ _ _ _ _ => pts_nil) (fun _ _ _ _ _ => (pe_ix ix_str pe_str (pe_call G_take (hr.mono (by decide)) rfl T.g_take T.k_take T.b_take .nil pass0 (pa_cons (pv 0) (pa_cons pe_int pa_nil))) (fun _ _ => rfl))))))) pss_nil)
      (pss_cons (ps_if (pt_cmpR op_eq (pv 2) pe_int (nomark _)) (pss_one (ps_ret (pe_call G_nlong (hr.mono (by decide)) rfl T.g_nlong T.k_nlong T.b_nlong .nil pass0 (pa_cons (pv 0) pa_nil)))) pss_nil)
      (pss_one (ps_ret (pe_call G_nspoilt (hr.mono (by decide)) rfl T.g_nspoilt T.k_nspoilt T.b_nspoilt .nil pass0 (pa_cons (pv 0) (pa_cons (pv 1) pa_nil)))))))))
theorem ok_nright (T : Txt P K mg a) : FnOk P w K mg base CX0 6 a.f_nright a.d_nright ["told", "due", "text"] (spRightT a.C) := by
  have G_integer := ok_integer (P := P) (w := w) (base := base) T
  have G_nstr := ok_nstr (P := P) (w := w) (base := base) T
  refine T.F_nright.ok sc_nright (fun vs H Q E h => by first | (obtain ⟨rfl, _⟩ := h; rfl) | (obtain ⟨_, rfl, _⟩ := h; rfl) | (obtain ⟨_, _, rfl, _⟩ := h; rfl) | (obtain ⟨_, _, _, rfl, _⟩ := h; rfl) | (obtain ⟨_, _, _, _, rfl, _⟩ := h; rfl) | (obtain ⟨_, _, _, _, _, rfl, _⟩ := h; rfl) | (obtain ⟨_, _, _, _, _, _, rfl, _⟩ := h; rfl) | (obtain ⟨_, _, _, _, _, _, _, rfl, _⟩ := h; rfl) | (obtain ⟨_, _, _, _, _, _, _, _, rfl, _⟩ := h; rfl) | (obtain ⟨_, _, _, _, _, _, _, _, _, rfl, _⟩ := h; rfl)) (fun cdv A outer s H vs Q E hr h => ⟨t_nright P K mg a.C a.Z a.BT a.BN E, ?_, pure_nright vs H Q E h⟩)
  exact (pss_cons (ps_if (PW.pt (pw_or (pt_not (pt_val (pe_callB (call_isA T.isa_Ratio) (by rfl) T.n_isinstance (by decide +kernel) (pa_cons (pv 0) (pa_cons (pe_glob rfl T.g_Ratio rfl) pa_nil))))) (pw_or (pt_not (pt_val (pe_call G_integer (hr.mono (by decide)) rfl T.g_integer T.k_integer T.b_integer .nil pass0 (pa_cons (pe_fldA (pv 0) T.isa_Ratio.cl T.na_top rfl) pa_nil)))) (pw_or1 (pt_not (pt_val (pe_call G_integer (hr.mono (by decide)) rfl T.g_integer T.k_integer T.b_integer .nil pass0 (pa_cons (pe_fldA (pv 0) T.isa_Ratio.cl T.na_bottom rfl) pa_nil)))))))) (pss_one (ps_ret pe_bl)) pss_nil)
      (pss_one (ps_ret (pe_and (pe_cmpR op_eq (pe_fldA (pv 0) T.isa_Ratio.cl T.na_top rfl) (pe_ix ix_1 (pv 1) pe_int (fun _ _ => rfl)) (nomark _)) (pe_and (pe_cmpR op_eq (pe_fldA (pv 0) T.isa_Ratio.cl T.na_bottom rfl) (pe_ix ix_1 (pv 1) pe_int (fun _ _ => rfl)) (nomark _)) (pe_one (pe_cmpR op_eq (pe_callTy (call_strOwn T.o_nstr T.i_nstr G_nstr (hr.mono (by decide)) T.b_nstr pass0) (by rfl) T.n_str (by decide +kernel) (pa_cons (pv 0) pa_nil)) (pv 2) (nomark _))))))))
theorem ok_nreads (T : Txt P K mg a) : FnOk P w K mg base CX0 7 a.f_nreads a.d_nreads ["text", "due"] (spReads a.C) := by
  have G_nread := ok_nread (P := P) (w := w) (base := base) T
  have G_nright := ok_nright (P := P) (w := w) (base := base) T
  refine T.F_nreads.ok sc_nreads (fun vs H Q E h => by first | (obtain ⟨rfl, _⟩ := h; rfl) | (obtain ⟨_, rfl, _⟩ := h; rfl) | (obtain ⟨_, _, rfl, _⟩ := h; rfl) | (obtain ⟨_, _, _, rfl, _⟩ := h; rfl) | (obtain ⟨_, _, _, _, rfl, _⟩ := h; rfl) | (obtain ⟨_, _, _, _, _, rfl, _⟩ := h; rfl) | (obtain ⟨_, _, _, _, _, _, rfl, _⟩ := h; rfl) | (obtain ⟨_, _, _, _, _, _, _, rfl, _⟩ := h; rfl) | (obtain ⟨_, _, _, _, _, _, _, _, rfl, _⟩ := h; rfl) | (obtain ⟨_, _, _, _, _, _, _, _, _, rfl, _⟩ := h; rfl)) (fun cdv A outer s H vs Q E hr h => ⟨t_nreads a.BP a.BQ a.BL a.BT a.SE P K mg a.C a.Z a.BT a.BN E, ?_, pure_nreads T.exc vs H Q E h⟩)
  exact (pss_cons (ps_set (i := 2) sc_nreads.nd rfl (.inl rfl) pe_non)
      (pss_cons (ps_set (i := 3) sc_nreads.nd rfl (.inl rfl) (pe_lst pa_nil))
      (pss_cons (ps_try_as (i := 4) (tb := t_ntryb a.C a.BN) (ts := t_ncaught K a.BN a.BP a.BQ a.BL a.BT a.SE) (Wout := fun _ _ _ _ => False) rfl rfl sc_nreads.nd rfl rfl ⟨rfl, by decide, Or.inl T.g_BadNumber⟩ takes0
      (fun W pn xe tk _ => (pss_one (ps_set (i := 2) sc_nreads.nd rfl (.inl rfl) (by exact (pe_sm rfl T.g_Ratio T.cr_Ratio T.sm_nread G_nread (hr.mono (by decide)) T.b_nread (fun σ => passAt tk σ) (pa_cons (pv 0) pa_nil))))))
      (fun a0 oe cls d pn hz hf => (pss_cons (ps_set (i := 5) sc_nreads.nd rfl (.inl rfl) (by exact (pe_or (pe_callB (call_caughtD T.exc.cz hz hf) (by rfl) T.n_isinstance (by decide +kernel) (pa_cons (pv 4) (pa_cons (pe_glob rfl T.g_BadPolynomial rfl) pa_nil))) (pe_or (pe_callB (call_caughtD T.exc.cz hz hf) (by rfl) T.n_isinstance (by decide +kernel) (pa_cons (pv 4) (pa_cons (pe_glob rfl T.g_BadQuestion rfl) pa_nil))) (pe_one (pe_callB (call_caughtD T.exc.cz hz hf) (by rfl) T.n_isinstance (by decide +kernel) (pa_cons (pv 4) (pa_cons (pe_glob rfl T.g_BadLine rfl) pa_nil))))))))
      (pss_one (ps_set (i := 3) sc_nreads.nd rfl (.inl rfl) (by exact (pe_lst (pa_cons (pe_callB (call_caughtD T.exc.cz hz hf) (by rfl) T.n_isinstance (by decide +kernel) (pa_cons (pv 4) (pa_cons (pe_glob rfl T.g_BadText rfl) pa_nil))) (pa_cons (pe_callB (call_caughtD T.exc.cz hz hf) (by rfl) T.n_isinstance (by decide +kernel) (pa_cons (pv 4) (pa_cons (pe_glob rfl T.g_SpotError rfl) pa_nil))) (pa_cons (pe_callB (call_caughtD T.exc.cz hz hf) (by rfl) T.n_isinstance (by decide +kernel) (pa_cons (pv 4) (pa_cons (pe_bltn (by rfl) T.n_ValueError (by decide +kernel) rfl) pa_nil))) (pa_cons (pv 5) (pa_cons (pe_xf T.xf T.nt hz hf (pv 4)) pa_nil)))))))))) ))
      (pss_cons (ps_if (pt_cmp (pc_isN (pv 1))) (pss_one (ps_ret (pe_cmpR (op_eqP hr.units) (pv 3) (pe_lst (pa_cons pe_bl (pa_cons pe_bl (pa_cons pe_bl (pa_cons pe_bl (pa_cons (pv 0) pa_nil)))))) (nomark _)))) pss_nil)
      (pss_one (ps_ret (pe_and (pe_cmpR op_eq (pe_callB call_lenA (by rfl) T.n_len boot_len (pa_cons (pv 3) pa_nil)) pe_int (nomark _)) (pe_one (pe_call G_nright (hr.mono (by decide)) rfl T.g_nright T.k_nright T.b_nright .nil pass0 (pa_cons (pv 2) (pa_cons (pv 1) (pa_cons (pv 0) pa_nil))))))))))))
theorem ok_nfixed (T : Txt P K mg a) : FnOk P w K mg base CX0 1 a.f_nfixed a.d_nfixed [] spFixed := by
  refine T.F_nfixed.ok sc_nfixed (fun vs H Q E h => by first | (obtain ⟨rfl, _⟩ := h; rfl) | (obtain ⟨_, rfl, _⟩ := h; rfl) | (obtain ⟨_, _, rfl, _⟩ := h; rfl) | (obtain ⟨_, _, _, rfl, _⟩ := h; rfl) | (obtain ⟨_, _, _, _, rfl, _⟩ := h; rfl) | (obtain ⟨_, _, _, _, _, rfl, _⟩ := h; rfl) | (obtain ⟨_, _, _, _, _, _, rfl, _⟩ := h; rfl) | (obtain ⟨_, _, _, _, _, _, _, rfl, _⟩ := h; rfl) | (obtain ⟨_, _, _, _, _, _, _, _, rfl, _⟩ := h; rfl) | (obtain ⟨_, _, _, _, _, _, _, _, _, rfl, _⟩ := h; rfl)) (fun cdv A outer s H vs Q E hr h => ⟨t_nfixed P K mg a.C a.Z a.BT a.BN E, ?_, pure_nfixed vs H Q E h⟩)
  exact (pss_cons (ps_set (i := 0) sc_nfixed.nd rfl (.inl rfl) (pe_lst (pa_cons pe_str (pa_cons pe_str (pa_cons pe_str (pa_cons pe_str (pa_cons pe_str (pa_cons pe_str (pa_cons pe_str (pa_cons pe_str (pa_cons pe_str (pa_cons pe_str (pa_cons pe_str (pa_cons pe_str (pa_cons pe_str (pa_cons pe_str (pa_cons pe_str pa_nil)))))))))))))))))
      (pss_cons (ps_set (i := 0) sc_nfixed.nd rfl (.inl rfl) (pe_op op_cat (pv 0) (pe_lst (pa_cons pe_str (pa_cons pe_str (pa_cons pe_str (pa_cons pe_str (pa_cons pe_str (pa_cons pe_str (pa_cons pe_str (pa_cons pe_str (pa_cons pe_str (pa_cons pe_str (pa_cons pe_str (pa_cons pe_str (pa_cons pe_str pa_nil))))))))))))))))
      (pss_one (ps_ret (pe_op op_cat (pv 0) (pe_lst (pa_cons pe_str (pa_cons pe_str pa_nil))))))))
theorem ok_nlaw (T : Txt P K mg a) : FnOk P w K mg base CX0 8 a.f_nlaw a.d_nlaw ["script"] (spLaw K) := by
  have G_init := ok_init (P := P) (w := w) (base := base) T
  have G_mul := ok_mul (P := P) (w := w) (base := base) T
  have G_ndrawn := ok_ndrawn (P := P) (w := w) (base := base) T
  have G_nfixed := ok_nfixed (P := P) (w := w) (base := base) T
  have G_njudged := ok_njudged (P := P) (w := w) (base := base) T
  have G_nlowest := ok_nlowest (P := P) (w := w) (base := base) T
  have G_nreads := ok_nreads (P := P) (w := w) (base := base) T
  have G_nstr := ok_nstr (P := P) (w := w) (base := base) T
  have G_ntext := ok_ntext (P := P) (w := w) (base := base) T
  have G_nwritten := ok_nwritten (P := P) (w := w) (base := base) T
  have G_pool := ok_pool (P := P) (w := w) (base := base) T
  refine T.F_nlaw.ok sc_nlaw (fun vs H Q E h => by first | (obtain ⟨rfl, _⟩ := h; rfl) | (obtain ⟨_, rfl, _⟩ := h; rfl) | (obtain ⟨_, _, rfl, _⟩ := h; rfl) | (obtain ⟨_, _, _, rfl, _⟩ := h; rfl) | (obtain ⟨_, _, _, _, rfl, _⟩ := h; rfl) | (obtain ⟨_, _, _, _, _, rfl, _⟩ := h; rfl) | (obtain ⟨_, _, _, _, _, _, rfl, _⟩ := h; rfl) | (obtain ⟨_, _, _, _, _, _, _, rfl, _⟩ := h; rfl) | (obtain ⟨_, _, _, _, _, _, _, _, rfl, _⟩ := h; rfl) | (obtain ⟨_, _, _, _, _, _, _, _, _, rfl, _⟩ := h; rfl)) (fun cdv A outer s H vs Q E hr h => ⟨t_nlaw P K mg a.C a.Z a.BT a.BN E, ?_, pure_nlaw vs H Q E h⟩)
  exact (pss_cons (ps_set (i := 1) sc_nlaw.nd rfl (.inl rfl) (pe_call G_pool (hr.mono (by decide)) rfl T.g_pool T.k_pool T.b_pool .nil pass0 (pa_cons (pv 0) pa_nil)))
      (pss_cons (ps_set (i := 2) sc_nlaw.nd rfl (.inl rfl) (pe_call G_ndrawn (hr.mono (by decide)) rfl T.g_ndrawn T.k_ndrawn T.b_ndrawn .nil pass0 (pa_cons (pv 1) pa_nil)))
      (pss_cons (ps_set (i := 3) sc_nlaw.nd rfl (.inl rfl) (pe_call G_ndrawn (hr.mono (by decide)) rfl T.g_ndrawn T.k_ndrawn T.b_ndrawn .nil pass0 (pa_cons (pv 1) pa_nil)))
      (pss_cons (ps_set (i := 4) sc_nlaw.nd rfl (.inl rfl) (pe_make T.mk_Ratio G_init (hr.mono (by decide)) rfl T.g_Ratio T.b_init .nil passL (pa_cons (pe_ix ix_1 (pv 2) pe_int (fun _ _ => rfl)) (pa_cons (pe_ix ix_1 (pv 2) pe_int (fun _ _ => rfl)) pa_nil))))
      (pss_cons (ps_set (i := 5) sc_nlaw.nd rfl (.inl rfl) (pe_make T.mk_Ratio G_init (hr.mono (by decide)) rfl T.g_Ratio T.b_init .nil passL (pa_cons (pe_ix ix_1 (pv 3) pe_int (fun _ _ => rfl)) (pa_cons (pe_ix ix_1 (pv 3) pe_int (fun _ _ => rfl)) pa_nil))))
      (pss_cons (ps_set (i := 6) sc_nlaw.nd rfl (.inl rfl) (pe_call G_nlowest (hr.mono (by decide)) rfl T.g_nlowest T.k_nlowest T.b_nlowest .nil pass0 (pa_cons (pe_op op_mulI (pe_ix ix_1 (pv 2) pe_int (fun _ _ => rfl)) (pe_ix ix_1 (pv 3) pe_int (fun _ _ => rfl))) (pa_cons (pe_op op_mulI (pe_ix ix_1 (pv 2) pe_int (fun _ _ => rfl)) (pe_ix ix_1 (pv 3) pe_int (fun _ _ => rfl))) pa_nil))))
      (pss_cons (ps_for PassesOwn.never rfl (pi_list (pe_lst (pa_cons (pe_tup (pa_cons (pv 4) (pa_cons (pv 2) pa_nil))) (pa_cons (pe_tup (pa_cons (pv 5) (pa_cons (pv 3) pa_nil))) (pa_cons (pe_tup (pa_cons (pe_op (op_own2 T.o_mul G_mul (hr.mono (by decide)) T.b_mul pass0) (pv 4) (pv 5)) (pa_cons (pv 6) pa_nil))) pa_nil))))) (pg_name (i := 7) sc_nlaw.nd rfl (.inl rfl)) (pss_one (ps_if (pt_cmpR op_ne (pe_callTy (call_strOwn T.o_nstr T.i_nstr G_nstr (hr.mono (by decide)) T.b_nstr pass0) (by rfl) T.n_str (by decide +kernel) (pa_cons (pe_ix ix_1 (pv 7) pe_int (fun _ _ => rfl)) pa_nil)) (pe_call G_nwritten (hr.mono (by decide)) rfl T.g_nwritten T.k_nwritten T.b_nwritten .nil pass0 (pa_cons (pe_ix ix_1 (pv 7) pe_int (fun _ _ => rfl)) pa_nil)) (nomark _)) (pss_one (ps_ret pe_bl)) pss_nil)))
      (pss_cons (ps_if (PW.pt (pw_or (pt_not (pt_val (pe_call G_nreads (hr.mono (by decide)) rfl T.g_nreads T.k_nreads T.b_nreads .nil pass0 (pa_cons (pe_call G_nwritten (hr.mono (by decide)) rfl T.g_nwritten T.k_nwritten T.b_nwritten .nil pass0 (pa_cons (pv 2) pa_nil)) (pa_cons (pv 2) pa_nil))))) (pw_or1 (pt_not (pt_val (pe_call G_nreads (hr.mono (by decide)) rfl T.g_nreads T.k_nreads T.b_nreads .nil pass0 (pa_cons (pe_call G_nwritten (hr.mono (by decide)) rfl T.g_nwritten T.k_nwritten T.b_nwritten .nil pass0 (pa_cons (pv 3) pa_nil)) (pa_cons (pv 3) pa_nil)))))))) (pss_one (ps_ret pe_bl)) pss_nil)
      (pss_cons (ps_for PassesOwn.never rfl (pi_list (pe_op op_cat (pe_lst (pa_cons (pe_call G_nwritten (hr.mono (by decide)) rfl T.g_nwritten T.k_nwritten T.b_nwritten .nil pass0 (pa_cons (pv 6) pa_nil)) (pa_cons (pe_call G_ntext (hr.mono (by decide)) rfl T.g_ntext T.k_ntext T.b_ntext .nil pass0 (pa_cons (pv 1) (pa_cons (pv 2) pa_nil))) pa_nil))) (pe_call0 G_nfixed (hr.mono (by decide)) rfl T.g_nfixed T.k_nfixed T.b_nfixed .nil pass0))) (pg_name (i := 8) sc_nlaw.nd rfl (.inl rfl)) (pss_one (ps_if (pt_not (pt_val (pe_call G_nreads (hr.mono (by decide)) rfl T.g_nreads T.k_nreads T.b_nreads .nil pass0 (pa_cons (pv 8) (pa_cons (pe_call G_njudged (hr.mono (by decide)) rfl T.g_njudged T.k_njudged T.b_njudged .nil pass0 (pa_cons (pv 8) pa_nil)) pa_nil))))) (pss_one (ps_ret pe_bl)) pss_nil)))
      (pss_one (ps_ret pe_bl)))))))))))
end
end SpX

set_option Elab.async false
set_option linter.all false
set_option maxRecDepth 100000
set_option maxHeartbeats 4000000
namespace SpX
open PySem PySem.Spec L2
theorem kit_ref {K : PySem.W.Frag} {t : Value} {c : Addr} {b : Bool} (ne : t ≠ .ref c) (hd : PySem.W.hasDictIn K c = true) (ht : PySem.W.typeIn K (.ref c) = some (.type "type")) (hs : PySem.W.subIn K t (.ref c) = some b) : PySem.W.kitOne K t (.ref c) = some b := by
  obtain ⟨cd, hc, _⟩ := PySem.W.any_some hd
  have e1 : (t == Value.ref c) = false := Bool.eq_false_iff.mpr fun q => ne (beq_iff_eq.mp q)
  have e2 : ((PySem.W.clsIn K c).isSome && PySem.W.typeIn K (.ref c) == some (.type "type")) = true := by rw [hc, ht] <;> rfl
  unfold PySem.W.kitOne PySem.W.kitCls
  rw [e1, if_neg (by decide)]
  show (if ((PySem.W.clsIn K c).isSome && PySem.W.typeIn K (.ref c) == some (.type "type")) = true then PySem.W.subIn K t (.ref c) else none) = some b
  rw [if_pos e2]
  exact hs
theorem kit_tyr {K : PySem.W.Frag} {c : Addr} {T : String} {b : Bool} (hm : PySem.W.kitMeta T = true) (hs : PySem.W.subIn K (.ref c) (.type T) = some b) : PySem.W.kitOne K (.ref c) (.type T) = some b := by
  have e1 : (Value.ref c == Value.type T) = false := Bool.eq_false_iff.mpr fun q => by cases beq_iff_eq.mp q
  unfold PySem.W.kitOne PySem.W.kitCls
  rw [e1, if_neg (by decide)]
  show (if PySem.W.kitMeta T = true then PySem.W.subIn K (.ref c) (.type T) else none) = some b
  rw [if_pos hm]
  exact hs
theorem kit_other {K : PySem.W.Frag} {z c : Addr} (hz : PySem.W.subIn K (.ref z) (.ref z) = some true) (hs : PySem.W.subIn K (.ref z) (.ref c) = some false) (hd : PySem.W.hasDictIn K c = true) (ht : PySem.W.typeIn K (.ref c) = some (.type "type")) : PySem.W.kitOne K (.ref z) (.ref c) = some false :=
  kit_ref (fun e => by
    cases e
    rw [hz] at hs
    cases hs) hd ht hs

theorem kit_true {K : PySem.W.Frag} {z c : Addr} (hz : PySem.W.subIn K (.ref z) (.ref z) = some true) (hc : PySem.W.subIn K (.ref c) (.ref z) = some false) (hs : PySem.W.subIn K (.ref z) (.ref c) = some true) (hd : PySem.W.hasDictIn K c = true) (ht : PySem.W.typeIn K (.ref c) = some (.type "type")) : PySem.W.kitOne K (.ref z) (.ref c) = some true :=
  kit_ref (fun e => by
    cases e
    rw [hz] at hc
    cases hc) hd ht hs
/-- an own exception over ValueError, as it lies -/
def exOk (C : Addr) (cd : ClassData) (sl : Array (Option Value)) : Bool := match cd.mro, sl.toList with
  | .ref C' :: bm, [_, _, _, _, some (.builtin n), _] => C' == C && n == "ValueError.__new__" && !cd.hasDel && cd.hasDict && PySem.HandSPX.refsVE bm
  | _, _ => false
theorem exOk_cls {K : PySem.W.Frag} {C : Addr} {dd : Option Addr} {cd : ClassData} {sl : Array (Option Value)} (ho : K.lookup C = some ⟨.type "type", dd, .cls cd, sl⟩) (q : exOk C cd sl = true) :
    ∃ nm q N bs bm sn sub ab col dd k0 k1 k2 k3 k5, K.lookup C = some (excClassObj nm q C N bs bm true sn sub ab col dd k0 k1 k2 k3 k5 "ValueError.__new__") ∧ PySem.HandSPX.refsVE bm = true := by
  unfold exOk at q
  split at q
  · rename_i C' bm k0 k1 k2 k3 n k5 hm hs
    simp only [Bool.and_eq_true, beq_iff_eq, Bool.not_eq_true'] at q
    obtain ⟨⟨⟨⟨rfl, rfl⟩, hdel⟩, hdc⟩, ht⟩ := q
    obtain ⟨nm, bs, mro, ns, qn, hd, sn, sub, ab, col, del⟩ := cd
    dsimp only at hm hdel hdc
    subst hm hdel hdc
    have hsl : sl = #[k0, k1, k2, k3, some (.builtin "ValueError.__new__"), k5] := by
      obtain ⟨l⟩ := sl
      simp only at hs
      rw [hs]
    subst hsl
    exact ⟨nm, qn, ns, bs, bm, sn, sub, ab, col, dd, k0, k1, k2, k3, k5, ho, ht⟩
  · cases q
theorem super_of {K : PySem.W.Frag} {C D S : Addr} {oc oc' : Value} {od od' : Option Addr} {cd cd' : ClassData} {sl sl' : Array (Option Value)} {x : Str} {r : Option (Option Value)} (h : K.lookup C = some ⟨oc, od, .cls cd, sl⟩) (h' : K.lookup S = some ⟨oc', od', .cls cd', sl'⟩)
    (e : (cd.mro.dropWhile (· != .ref D)).drop 1 = cd'.mro) (f : PySem.W.findIn K (.ref S) x = r) : PySem.W.ks_superIn K C D x = r := by
  have hc : PySem.W.clsIn K C = some cd := by
    unfold PySem.W.clsIn
    rw [h]
  unfold PySem.W.ks_superIn
  rw [hc, Option.bind_some, e, ← f]
  show _ = (match K.lookup S with
      | some ⟨_, _, .cls cd, _⟩ => PySem.W.alongIn K x cd.mro
      | _ => none)
  rw [h']
theorem all_mk {P : Program} {w : World} {K : PySem.W.Frag} {h : Heap} {mg : Str → Option Value} {fa C Z BN BP BQ BL BT SE pr dT f_rmul : Addr} {rest_nread : List Value} {odT odBN odSE : Option Addr} {ocT ocSE : Value} {cdBN cdSE : ClassData} {slT slBN slSE : Array (Option Value)} {nT : Nat} {tkT tkLONGEST_READ tkBLOCK_DIGITS tkBLOCK : Tok}
    {f_pool : Addr} {od_pool an_pool : Option Addr} {sl_pool : Array (Option Value)} {oc_pool kV_pool dc_pool pm_pool cd_pool ct_pool : Value}
    {f_take : Addr} {od_take an_take : Option Addr} {sl_take : Array (Option Value)} {oc_take kV_take dc_take pm_take cd_take ct_take : Value}
    {f_integer : Addr} {od_integer an_integer : Option Addr} {sl_integer : Array (Option Value)} {oc_integer kV_integer dc_integer pm_integer cd_integer ct_integer : Value}
    {f_common : Addr} {od_common an_common : Option Addr} {sl_common : Array (Option Value)} {oc_common kV_common dc_common pm_common cd_common ct_common : Value}
    {f_init : Addr} {od_init an_init : Option Addr} {sl_init : Array (Option Value)} {oc_init kV_init dc_init pm_init cd_init ct_init : Value}
    {f_mul : Addr} {od_mul an_mul : Option Addr} {sl_mul : Array (Option Value)} {oc_mul kV_mul dc_mul pm_mul cd_mul ct_mul : Value}
    {f_neg : Addr} {od_neg an_neg : Option Addr} {sl_neg : Array (Option Value)} {oc_neg kV_neg dc_neg pm_neg cd_neg ct_neg : Value}
    {f_npowers : Addr} {od_npowers an_npowers : Option Addr} {sl_npowers : Array (Option Value)} {oc_npowers kV_npowers dc_npowers pm_npowers cd_npowers ct_npowers : Value}
    {f_nwint : Addr} {od_nwint an_nwint : Option Addr} {sl_nwint : Array (Option Value)} {oc_nwint kV_nwint dc_nwint pm_nwint cd_nwint ct_nwint : Value}
    {f_ncount : Addr} {od_ncount an_ncount : Option Addr} {sl_ncount : Array (Option Value)} {oc_ncount kV_ncount dc_ncount pm_ncount cd_ncount ct_ncount : Value}
    {f_nstr : Addr} {od_nstr an_nstr : Option Addr} {sl_nstr : Array (Option Value)} {oc_nstr kV_nstr dc_nstr pm_nstr cd_nstr ct_nstr : Value}
    {f_bt cda_bt cc_bt : Addr} {od_bt an_bt dD dE : Option Addr} {sl_bt slD slE : Array (Option Value)} {oc_bt kV_bt dc_bt pm_bt ct_bt clD clE : Value} {vsD : Array Value} {fileD : Str} {tfD : Tok}
    {f_nread : Addr} {od_nread an_nread : Option Addr} {sl_nread : Array (Option Value)} {oc_nread kV_nread dc_nread pm_nread cd_nread ct_nread : Value}
    {f_npower : Addr} {od_npower an_npower : Option Addr} {sl_npower : Array (Option Value)} {oc_npower kV_npower dc_npower pm_npower cd_npower ct_npower : Value}
    {f_nsize : Addr} {od_nsize an_nsize : Option Addr} {sl_nsize : Array (Option Value)} {oc_nsize kV_nsize dc_nsize pm_nsize cd_nsize ct_nsize : Value}
    {f_nlowest : Addr} {od_nlowest an_nlowest : Option Addr} {sl_nlowest : Array (Option Value)} {oc_nlowest kV_nlowest dc_nlowest pm_nlowest cd_nlowest ct_nlowest : Value}
    {f_ndrawn : Addr} {od_ndrawn an_ndrawn : Option Addr} {sl_ndrawn : Array (Option Value)} {oc_ndrawn kV_ndrawn dc_ndrawn pm_ndrawn cd_ndrawn ct_ndrawn : Value}
    {f_nwritten : Addr} {od_nwritten an_nwritten : Option Addr} {sl_nwritten : Array (Option Value)} {oc_nwritten kV_nwritten dc_nwritten pm_nwritten cd_nwritten ct_nwritten : Value}
    {f_ngroup : Addr} {od_ngroup an_ngroup : Option Addr} {sl_ngroup : Array (Option Value)} {oc_ngroup kV_ngroup dc_ngroup pm_ngroup cd_ngroup ct_ngroup : Value}
    {f_njudged : Addr} {od_njudged an_njudged : Option Addr} {sl_njudged : Array (Option Value)} {oc_njudged kV_njudged dc_njudged pm_njudged cd_njudged ct_njudged : Value}
    {f_nmark : Addr} {od_nmark an_nmark : Option Addr} {sl_nmark : Array (Option Value)} {oc_nmark kV_nmark dc_nmark pm_nmark cd_nmark ct_nmark : Value}
    {f_nlong : Addr} {od_nlong an_nlong : Option Addr} {sl_nlong : Array (Option Value)} {oc_nlong kV_nlong dc_nlong pm_nlong cd_nlong ct_nlong : Value}
    {f_nspoilt : Addr} {od_nspoilt an_nspoilt : Option Addr} {sl_nspoilt : Array (Option Value)} {oc_nspoilt kV_nspoilt dc_nspoilt pm_nspoilt cd_nspoilt ct_nspoilt : Value}
    {f_ntext : Addr} {od_ntext an_ntext : Option Addr} {sl_ntext : Array (Option Value)} {oc_ntext kV_ntext dc_ntext pm_ntext cd_ntext ct_ntext : Value}
    {f_nright : Addr} {od_nright an_nright : Option Addr} {sl_nright : Array (Option Value)} {oc_nright kV_nright dc_nright pm_nright cd_nright ct_nright : Value}
    {f_nreads : Addr} {od_nreads an_nreads : Option Addr} {sl_nreads : Array (Option Value)} {oc_nreads kV_nreads dc_nreads pm_nreads cd_nreads ct_nreads : Value}
    {f_nfixed : Addr} {od_nfixed an_nfixed : Option Addr} {sl_nfixed : Array (Option Value)} {oc_nfixed kV_nfixed dc_nfixed pm_nfixed cd_nfixed ct_nfixed : Value}
    {f_nlaw : Addr} {od_nlaw an_nlaw : Option Addr} {sl_nlaw : Array (Option Value)} {oc_nlaw kV_nlaw dc_nlaw pm_nlaw cd_nlaw ct_nlaw : Value}
    (X : K.In h) (G : h.Ns mainGlobals mg) (hfa : mg "law" = some (.ref fa))
    (gC : PySem.W.nsIn K mainGlobals "Ratio" = some (some (.ref C)))
    (gZ : PySem.W.nsIn K mainGlobals "ZeroDivisor" = some (some (.ref Z)))
    (gBN : PySem.W.nsIn K mainGlobals "BadNumber" = some (some (.ref BN)))
    (gBP : PySem.W.nsIn K mainGlobals "BadPolynomial" = some (some (.ref BP)))
    (gBQ : PySem.W.nsIn K mainGlobals "BadQuestion" = some (some (.ref BQ)))
    (gBL : PySem.W.nsIn K mainGlobals "BadLine" = some (some (.ref BL)))
    (gBT : PySem.W.nsIn K mainGlobals "BadText" = some (some (.ref BT)))
    (gSE : PySem.W.nsIn K mainGlobals "SpotError" = some (some (.ref SE)))
    (n_len : PySem.W.nsIn K mainGlobals "len" = some none)
    (n_abs : PySem.W.nsIn K mainGlobals "abs" = some none)
    (n_int : PySem.W.nsIn K mainGlobals "int" = some none)
    (n_list : PySem.W.nsIn K mainGlobals "list" = some none)
    (n_bool : PySem.W.nsIn K mainGlobals "bool" = some none)
    (n_max : PySem.W.nsIn K mainGlobals "max" = some none)
    (n_isinstance : PySem.W.nsIn K mainGlobals "isinstance" = some none)
    (n_range : PySem.W.nsIn K mainGlobals "range" = some none)
    (n_ValueError : PySem.W.nsIn K mainGlobals "ValueError" = some none)
    (n_str : PySem.W.nsIn K mainGlobals "str" = some none)
    (n_divmod : PySem.W.nsIn K mainGlobals "divmod" = some none)
    (n_super : PySem.W.nsIn K mainGlobals "super" = some none)
    (ggcd : PySem.W.nsIn K mainGlobals "gcd" = some (some (.builtin "math.gcd")))
    (cLONGEST_READ : PySem.W.nsIn K mainGlobals "LONGEST_READ" = some (some (.int 60 tkLONGEST_READ)))
    (cBLOCK_DIGITS : PySem.W.nsIn K mainGlobals "BLOCK_DIGITS" = some (some (.int 64 tkBLOCK_DIGITS)))
    (cBLOCK : PySem.W.nsIn K mainGlobals "BLOCK" = some (some (.int 10000000000000000000000000000000000000000000000000000000000000000 tkBLOCK)))
    (pg : PySem.W.plainGet K C Str.empty = true)
    (hd : PySem.W.hasDictIn K C = true)
    (po : PySem.W.plainOver K C = true)
    (sa : PySem.W.findIn K (.ref C) "__setattr__" = some (some (.builtin "object.__setattr__")))
    (ca : PySem.W.findIn K (.ref C) "__class__" = some (some (.builtin "object.__class__")))
    (cn : PySem.W.specialIn K (.builtin "object.__class__") "__get__" = some (some (.builtin "getset_descriptor.__get__")))
    (ct : PySem.W.takesIn K (.builtin "object.__class__") = some true)
    (cm : PySem.W.mroIn K C (.type "object") = some true)
    (tC : PySem.W.typeIn K (.ref C) = some (.type "type"))
    (nat : PySem.W.findIn K (.ref C) "top" = some none)
    (nab : PySem.W.findIn K (.ref C) "bottom" = some none)
    (mk : PySem.W.makesIn K C = true)
    (kC : PySem.W.keepIn K (.ref C) = true)
    (sf : PySem.W.selfFirst K C = true)
    (su1 : PySem.W.subIn K (.type "int") (.ref C) = some false)
    (su2 : PySem.W.subIn K (.ref C) (.type "int") = some false)
    (rdC : PySem.W.readsIn K C (.type "type") = true)
    (gaC : PySem.W.specialIn K (.ref C) "__getattribute__" = some (some (.builtin "type.__getattribute__")))
    (b1_mul : PySem.W.findIn K (.type "int") "__mul__" = some (some (.builtin "int.__mul__")))
    (b2_mul : PySem.W.findIn K (.type "int") "__rmul__" = some (some (.builtin "int.__rmul__")))
    (a_rmul : PySem.W.findIn K (.ref C) "__rmul__" = some (some (.ref f_rmul)))
    (xZ : PySem.W.excIn K Z [.type "ValueError", .type "Exception", .type "BaseException", .type "object"] "ValueError.__new__" = true)
    (kZ : PySem.W.keepIn K (.ref Z) = true)
    (bZ : PySem.W.subIn K (.ref Z) (.type "BaseException") = some true)
    (tZ : PySem.W.typeIn K (.ref Z) = some (.type "type"))
    (zg : PySem.W.findIn K (.ref BN) "__getattribute__" = some (some (.builtin "BaseException.__getattribute__")))
    (zk : PySem.W.findIn K (.ref BN) "__getattr__" = some none)
    (za : PySem.W.findIn K (.ref BN) "__class__" = some (some (.builtin "object.__class__")))
    (zs : PySem.W.findIn K (.ref BN) "__setattr__" = some (some (.builtin "object.__setattr__")))
    (zt : PySem.W.findIn K (.ref BN) "text" = some none)
    (zm : PySem.W.mroIn K BN (.type "object") = some true)
    (zb : PySem.W.mroIn K BN (.ref BT) = some true)
    (bB : PySem.W.subIn K (.ref BN) (.type "BaseException") = some true)
    (kB : PySem.W.keepIn K (.ref BN) = true)
    (sve : PySem.W.subIn K (.ref BN) (.type "ValueError") = some true)
    (szz : PySem.W.subIn K (.ref BN) (.ref BN) = some true)
    (dBN : PySem.W.hasDictIn K BN = true)
    (tBN : PySem.W.typeIn K (.ref BN) = some (.type "type"))
    (dBP : PySem.W.hasDictIn K BP = true)
    (tBP : PySem.W.typeIn K (.ref BP) = some (.type "type"))
    (sBP : PySem.W.subIn K (.ref BN) (.ref BP) = some false)
    (dBQ : PySem.W.hasDictIn K BQ = true)
    (tBQ : PySem.W.typeIn K (.ref BQ) = some (.type "type"))
    (sBQ : PySem.W.subIn K (.ref BN) (.ref BQ) = some false)
    (dBL : PySem.W.hasDictIn K BL = true)
    (tBL : PySem.W.typeIn K (.ref BL) = some (.type "type"))
    (sBL : PySem.W.subIn K (.ref BN) (.ref BL) = some false)
    (dBT : PySem.W.hasDictIn K BT = true)
    (tBT : PySem.W.typeIn K (.ref BT) = some (.type "type"))
    (sBT : PySem.W.subIn K (.ref BN) (.ref BT) = some true)
    (rBT : PySem.W.subIn K (.ref BT) (.ref BN) = some false)
    (dSE : PySem.W.hasDictIn K SE = true)
    (tSE : PySem.W.typeIn K (.ref SE) = some (.type "type"))
    (sSE : PySem.W.subIn K (.ref BN) (.ref SE) = some true)
    (rSE : PySem.W.subIn K (.ref SE) (.ref BN) = some false)
    (lBN : K.lookup BN = some ⟨.type "type", odBN, .cls cdBN, slBN⟩)
    (qBN : exOk BN cdBN slBN = true)
    (lSE : K.lookup SE = some ⟨ocSE, odSE, .cls cdSE, slSE⟩)
    (dr : (cdBN.mro.dropWhile (· != .ref BT)).drop 1 = cdSE.mro)
    (fSE : PySem.W.findIn K (.ref SE) "__init__" = some (some (.builtin "ValueError.__init__")))
    (any : PySem.W.nsIn K cStatics "thirdparty.any" = some none)
    (ptop : (P.main.scope.names.lookup ("super" : Str)).isSome = false)
    (a_pool : PySem.W.nsIn K mainGlobals "_law_pool" = some (some (.ref f_pool)))
    (l_pool : K.lookup f_pool = some ⟨oc_pool, od_pool, .func (PySem.W.fnOf "_law_pool" "_law_pool" (defArgs s_pool) (defBody s_pool) (defScope s_pool) .none kV_pool dc_pool pm_pool an_pool cd_pool ct_pool), sl_pool⟩)
    (c_pool : PySem.W.codeIn K cd_pool "_law_pool" = true)
    (k_pool : PySem.W.keepIn K (.ref f_pool) = true)
    (a_take : PySem.W.nsIn K mainGlobals "_law_take" = some (some (.ref f_take)))
    (l_take : K.lookup f_take = some ⟨oc_take, od_take, .func (PySem.W.fnOf "_law_take" "_law_take" (defArgs s_take) (defBody s_take) (defScope s_take) .none kV_take dc_take pm_take an_take cd_take ct_take), sl_take⟩)
    (c_take : PySem.W.codeIn K cd_take "_law_take" = true)
    (k_take : PySem.W.keepIn K (.ref f_take) = true)
    (a_integer : PySem.W.nsIn K mainGlobals "_law_integer" = some (some (.ref f_integer)))
    (l_integer : K.lookup f_integer = some ⟨oc_integer, od_integer, .func (PySem.W.fnOf "_law_integer" "_law_integer" (defArgs s_integer) (defBody s_integer) (defScope s_integer) .none kV_integer dc_integer pm_integer an_integer cd_integer ct_integer), sl_integer⟩)
    (c_integer : PySem.W.codeIn K cd_integer "_law_integer" = true)
    (k_integer : PySem.W.keepIn K (.ref f_integer) = true)
    (a_common : PySem.W.nsIn K mainGlobals "_law_common" = some (some (.ref f_common)))
    (l_common : K.lookup f_common = some ⟨oc_common, od_common, .func (PySem.W.fnOf "_law_common" "_law_common" (defArgs s_common) (defBody s_common) (defScope s_common) .none kV_common dc_common pm_common an_common cd_common ct_common), sl_common⟩)
    (c_common : PySem.W.codeIn K cd_common "_law_common" = true)
    (k_common : PySem.W.keepIn K (.ref f_common) = true)
    (a_init : PySem.W.findIn K (.ref C) "__init__" = some (some (.ref f_init)))
    (i_init : PySem.W.isFn K (.ref f_init) = true)
    (l_init : K.lookup f_init = some ⟨oc_init, od_init, .func (PySem.W.fnOf "__init__" "Ratio.__init__" (defArgs s_init) (defBody s_init) (defScope s_init) (.ref dT) kV_init dc_init pm_init an_init cd_init ct_init), sl_init⟩)
    (c_init : PySem.W.codeIn K cd_init "Ratio.__init__" = true)
    (k_init : PySem.W.keepIn K (.ref f_init) = true)
    (a_mul : PySem.W.findIn K (.ref C) "__mul__" = some (some (.ref f_mul)))
    (i_mul : PySem.W.isFn K (.ref f_mul) = true)
    (l_mul : K.lookup f_mul = some ⟨oc_mul, od_mul, .func (PySem.W.fnOf "__mul__" "Ratio.__mul__" (defArgs s_mul) (defBody s_mul) (defScope s_mul) .none kV_mul dc_mul pm_mul an_mul cd_mul ct_mul), sl_mul⟩)
    (c_mul : PySem.W.codeIn K cd_mul "Ratio.__mul__" = true)
    (k_mul : PySem.W.keepIn K (.ref f_mul) = true)
    (a_neg : PySem.W.findIn K (.ref C) "__neg__" = some (some (.ref f_neg)))
    (i_neg : PySem.W.isFn K (.ref f_neg) = true)
    (l_neg : K.lookup f_neg = some ⟨oc_neg, od_neg, .func (PySem.W.fnOf "__neg__" "Ratio.__neg__" (defArgs s_neg) (defBody s_neg) (defScope s_neg) .none kV_neg dc_neg pm_neg an_neg cd_neg ct_neg), sl_neg⟩)
    (c_neg : PySem.W.codeIn K cd_neg "Ratio.__neg__" = true)
    (k_neg : PySem.W.keepIn K (.ref f_neg) = true)
    (a_npowers : PySem.W.nsIn K mainGlobals "_block_powers" = some (some (.ref f_npowers)))
    (l_npowers : K.lookup f_npowers = some ⟨oc_npowers, od_npowers, .func (PySem.W.fnOf "_block_powers" "_block_powers" (defArgs s_npowers) (defBody s_npowers) (defScope s_npowers) .none kV_npowers dc_npowers pm_npowers an_npowers cd_npowers ct_npowers), sl_npowers⟩)
    (c_npowers : PySem.W.codeIn K cd_npowers "_block_powers" = true)
    (k_npowers : PySem.W.keepIn K (.ref f_npowers) = true)
    (a_nwint : PySem.W.nsIn K mainGlobals "written_integer" = some (some (.ref f_nwint)))
    (l_nwint : K.lookup f_nwint = some ⟨oc_nwint, od_nwint, .func (PySem.W.fnOf "written_integer" "written_integer" (defArgs s_nwint) (defBody s_nwint) (defScope s_nwint) .none kV_nwint dc_nwint pm_nwint an_nwint cd_nwint ct_nwint), sl_nwint⟩)
    (c_nwint : PySem.W.codeIn K cd_nwint "written_integer" = true)
    (k_nwint : PySem.W.keepIn K (.ref f_nwint) = true)
    (a_ncount : PySem.W.nsIn K mainGlobals "_is_count" = some (some (.ref f_ncount)))
    (l_ncount : K.lookup f_ncount = some ⟨oc_ncount, od_ncount, .func (PySem.W.fnOf "_is_count" "_is_count" (defArgs s_ncount) (defBody s_ncount) (defScope s_ncount) .none kV_ncount dc_ncount pm_ncount an_ncount cd_ncount ct_ncount), sl_ncount⟩)
    (c_ncount : PySem.W.codeIn K cd_ncount "_is_count" = true)
    (k_ncount : PySem.W.keepIn K (.ref f_ncount) = true)
    (a_nstr : PySem.W.findIn K (.ref C) "__str__" = some (some (.ref f_nstr)))
    (i_nstr : PySem.W.isFn K (.ref f_nstr) = true)
    (l_nstr : K.lookup f_nstr = some ⟨oc_nstr, od_nstr, .func (PySem.W.fnOf "__str__" "Ratio.__str__" (defArgs s_nstr) (defBody s_nstr) (defScope s_nstr) .none kV_nstr dc_nstr pm_nstr an_nstr cd_nstr ct_nstr), sl_nstr⟩)
    (c_nstr : PySem.W.codeIn K cd_nstr "Ratio.__str__" = true)
    (k_nstr : PySem.W.keepIn K (.ref f_nstr) = true)
    (a_bt : PySem.W.findIn K (.ref BN) "__init__" = some (some (.ref f_bt)))
    (ti_bt : PySem.W.typeIn K (.ref f_bt) = some (.type "function"))
    (l_bt : K.lookup f_bt = some ⟨oc_bt, od_bt, .func (PySem.W.ksFn "__init__" "BadText.__init__" (defArgs s_bt) (defBody s_bt) (defScope s_bt) .none kV_bt dc_bt pm_bt an_bt (.ref cda_bt) ct_bt cc_bt), sl_bt⟩)
    (c_bt : PySem.W.codeIn K (.ref cda_bt) "BadText.__init__" = true)
    (lcd : K.lookup cda_bt = some ⟨clD, dD, .fields vsD, slD⟩)
    (vcd : vsD[2]? = some (.str fileD tfD))
    (fcd : ((P.main.file : Str) == fileD) = true)
    (lcc : K.lookup cc_bt = some ⟨clE, dE, .cell (some (.ref BT)), slE⟩)
    (a_nread : PySem.W.findCls K (.ref C) (.type "type") "read" = some (.get (.builtin "staticmethod.__get__") (.ref pr) .none (.ref C)))
    (r_nread : PySem.W.recIn K pr "staticmethod" = some (.ref f_nread :: rest_nread))
    (l_nread : K.lookup f_nread = some ⟨oc_nread, od_nread, .func (PySem.W.fnOf "read" "Ratio.read" (defArgs s_nread) (defBody s_nread) (defScope s_nread) .none kV_nread dc_nread pm_nread an_nread cd_nread ct_nread), sl_nread⟩)
    (c_nread : PySem.W.codeIn K cd_nread "Ratio.read" = true)
    (k_nread : PySem.W.keepIn K (.ref f_nread) = true)
    (a_npower : PySem.W.nsIn K mainGlobals "_law_power" = some (some (.ref f_npower)))
    (l_npower : K.lookup f_npower = some ⟨oc_npower, od_npower, .func (PySem.W.fnOf "_law_power" "_law_power" (defArgs s_npower) (defBody s_npower) (defScope s_npower) .none kV_npower dc_npower pm_npower an_npower cd_npower ct_npower), sl_npower⟩)
    (c_npower : PySem.W.codeIn K cd_npower "_law_power" = true)
    (k_npower : PySem.W.keepIn K (.ref f_npower) = true)
    (a_nsize : PySem.W.nsIn K mainGlobals "_law_size" = some (some (.ref f_nsize)))
    (l_nsize : K.lookup f_nsize = some ⟨oc_nsize, od_nsize, .func (PySem.W.fnOf "_law_size" "_law_size" (defArgs s_nsize) (defBody s_nsize) (defScope s_nsize) .none kV_nsize dc_nsize pm_nsize an_nsize cd_nsize ct_nsize), sl_nsize⟩)
    (c_nsize : PySem.W.codeIn K cd_nsize "_law_size" = true)
    (k_nsize : PySem.W.keepIn K (.ref f_nsize) = true)
    (a_nlowest : PySem.W.nsIn K mainGlobals "_law_lowest" = some (some (.ref f_nlowest)))
    (l_nlowest : K.lookup f_nlowest = some ⟨oc_nlowest, od_nlowest, .func (PySem.W.fnOf "_law_lowest" "_law_lowest" (defArgs s_nlowest) (defBody s_nlowest) (defScope s_nlowest) .none kV_nlowest dc_nlowest pm_nlowest an_nlowest cd_nlowest ct_nlowest), sl_nlowest⟩)
    (c_nlowest : PySem.W.codeIn K cd_nlowest "_law_lowest" = true)
    (k_nlowest : PySem.W.keepIn K (.ref f_nlowest) = true)
    (a_ndrawn : PySem.W.nsIn K mainGlobals "_law_drawn" = some (some (.ref f_ndrawn)))
    (l_ndrawn : K.lookup f_ndrawn = some ⟨oc_ndrawn, od_ndrawn, .func (PySem.W.fnOf "_law_drawn" "_law_drawn" (defArgs s_ndrawn) (defBody s_ndrawn) (defScope s_ndrawn) .none kV_ndrawn dc_ndrawn pm_ndrawn an_ndrawn cd_ndrawn ct_ndrawn), sl_ndrawn⟩)
    (c_ndrawn : PySem.W.codeIn K cd_ndrawn "_law_drawn" = true)
    (k_ndrawn : PySem.W.keepIn K (.ref f_ndrawn) = true)
    (a_nwritten : PySem.W.nsIn K mainGlobals "_law_written" = some (some (.ref f_nwritten)))
    (l_nwritten : K.lookup f_nwritten = some ⟨oc_nwritten, od_nwritten, .func (PySem.W.fnOf "_law_written" "_law_written" (defArgs s_nwritten) (defBody s_nwritten) (defScope s_nwritten) .none kV_nwritten dc_nwritten pm_nwritten an_nwritten cd_nwritten ct_nwritten), sl_nwritten⟩)
    (c_nwritten : PySem.W.codeIn K cd_nwritten "_law_written" = true)
    (k_nwritten : PySem.W.keepIn K (.ref f_nwritten) = true)
    (a_ngroup : PySem.W.nsIn K mainGlobals "_law_group" = some (some (.ref f_ngroup)))
    (l_ngroup : K.lookup f_ngroup = some ⟨oc_ngroup, od_ngroup, .func (PySem.W.fnOf "_law_group" "_law_group" (defArgs s_ngroup) (defBody s_ngroup) (defScope s_ngroup) .none kV_ngroup dc_ngroup pm_ngroup an_ngroup cd_ngroup ct_ngroup), sl_ngroup⟩)
    (c_ngroup : PySem.W.codeIn K cd_ngroup "_law_group" = true)
    (k_ngroup : PySem.W.keepIn K (.ref f_ngroup) = true)
    (a_njudged : PySem.W.nsIn K mainGlobals "_law_judged" = some (some (.ref f_njudged)))
    (l_njudged : K.lookup f_njudged = some ⟨oc_njudged, od_njudged, .func (PySem.W.fnOf "_law_judged" "_law_judged" (defArgs s_njudged) (defBody s_njudged) (defScope s_njudged) .none kV_njudged dc_njudged pm_njudged an_njudged cd_njudged ct_njudged), sl_njudged⟩)
    (c_njudged : PySem.W.codeIn K cd_njudged "_law_judged" = true)
    (k_njudged : PySem.W.keepIn K (.ref f_njudged) = true)
    (a_nmark : PySem.W.nsIn K mainGlobals "_law_mark" = some (some (.ref f_nmark)))
    (l_nmark : K.lookup f_nmark = some ⟨oc_nmark, od_nmark, .func (PySem.W.fnOf "_law_mark" "_law_mark" (defArgs s_nmark) (defBody s_nmark) (defScope s_nmark) .none kV_nmark dc_nmark pm_nmark an_nmark cd_nmark ct_nmark), sl_nmark⟩)
    (c_nmark : PySem.W.codeIn K cd_nmark "_law_mark" = true)
    (k_nmark : PySem.W.keepIn K (.ref f_nmark) = true)
    (a_nlong : PySem.W.nsIn K mainGlobals "_law_long" = some (some (.ref f_nlong)))
    (l_nlong : K.lookup f_nlong = some ⟨oc_nlong, od_nlong, .func (PySem.W.fnOf "_law_long" "_law_long" (defArgs s_nlong) (defBody s_nlong) (defScope s_nlong) .none kV_nlong dc_nlong pm_nlong an_nlong cd_nlong ct_nlong), sl_nlong⟩)
    (c_nlong : PySem.W.codeIn K cd_nlong "_law_long" = true)
    (k_nlong : PySem.W.keepIn K (.ref f_nlong) = true)
    (a_nspoilt : PySem.W.nsIn K mainGlobals "_law_spoilt" = some (some (.ref f_nspoilt)))
    (l_nspoilt : K.lookup f_nspoilt = some ⟨oc_nspoilt, od_nspoilt, .func (PySem.W.fnOf "_law_spoilt" "_law_spoilt" (defArgs s_nspoilt) (defBody s_nspoilt) (defScope s_nspoilt) .none kV_nspoilt dc_nspoilt pm_nspoilt an_nspoilt cd_nspoilt ct_nspoilt), sl_nspoilt⟩)
    (c_nspoilt : PySem.W.codeIn K cd_nspoilt "_law_spoilt" = true)
    (k_nspoilt : PySem.W.keepIn K (.ref f_nspoilt) = true)
    (a_ntext : PySem.W.nsIn K mainGlobals "_law_text" = some (some (.ref f_ntext)))
    (l_ntext : K.lookup f_ntext = some ⟨oc_ntext, od_ntext, .func (PySem.W.fnOf "_law_text" "_law_text" (defArgs s_ntext) (defBody s_ntext) (defScope s_ntext) .none kV_ntext dc_ntext pm_ntext an_ntext cd_ntext ct_ntext), sl_ntext⟩)
    (c_ntext : PySem.W.codeIn K cd_ntext "_law_text" = true)
    (k_ntext : PySem.W.keepIn K (.ref f_ntext) = true)
    (a_nright : PySem.W.nsIn K mainGlobals "_law_right" = some (some (.ref f_nright)))
    (l_nright : K.lookup f_nright = some ⟨oc_nright, od_nright, .func (PySem.W.fnOf "_law_right" "_law_right" (defArgs s_nright) (defBody s_nright) (defScope s_nright) .none kV_nright dc_nright pm_nright an_nright cd_nright ct_nright), sl_nright⟩)
    (c_nright : PySem.W.codeIn K cd_nright "_law_right" = true)
    (k_nright : PySem.W.keepIn K (.ref f_nright) = true)
    (a_nreads : PySem.W.nsIn K mainGlobals "_law_reads" = some (some (.ref f_nreads)))
    (l_nreads : K.lookup f_nreads = some ⟨oc_nreads, od_nreads, .func (PySem.W.fnOf "_law_reads" "_law_reads" (defArgs s_nreads) (defBody s_nreads) (defScope s_nreads) .none kV_nreads dc_nreads pm_nreads an_nreads cd_nreads ct_nreads), sl_nreads⟩)
    (c_nreads : PySem.W.codeIn K cd_nreads "_law_reads" = true)
    (k_nreads : PySem.W.keepIn K (.ref f_nreads) = true)
    (a_nfixed : PySem.W.nsIn K mainGlobals "_law_fixed" = some (some (.ref f_nfixed)))
    (l_nfixed : K.lookup f_nfixed = some ⟨oc_nfixed, od_nfixed, .func (PySem.W.fnOf "_law_fixed" "_law_fixed" (defArgs s_nfixed) (defBody s_nfixed) (defScope s_nfixed) .none kV_nfixed dc_nfixed pm_nfixed an_nfixed cd_nfixed ct_nfixed), sl_nfixed⟩)
    (c_nfixed : PySem.W.codeIn K cd_nfixed "_law_fixed" = true)
    (k_nfixed : PySem.W.keepIn K (.ref f_nfixed) = true)
    (a_nlaw : PySem.W.nsIn K mainGlobals "law" = some (some (.ref f_nlaw)))
    (l_nlaw : K.lookup f_nlaw = some ⟨oc_nlaw, od_nlaw, .func (PySem.W.fnOf "law" "law" (defArgs s_nlaw) (defBody s_nlaw) (defScope s_nlaw) .none kV_nlaw dc_nlaw pm_nlaw an_nlaw cd_nlaw ct_nlaw), sl_nlaw⟩)
    (c_nlaw : PySem.W.codeIn K cd_nlaw "law" = true)
    (k_nlaw : PySem.W.keepIn K (.ref f_nlaw) = true)
    (lt : K.lookup dT = some ⟨ocT, odT, .seq #[.int 1 tkT] nT, slT⟩)
    : ∃ fd : FuncData, (∀ (s : Shared) (v : Value), BindsTo s fd ⟨[v], []⟩ [("script", v)]) ∧ ∀ base : Heap, K.In base → base.Ns mainGlobals mg → FnOk P w K mg base CX0 8 fa fd ["script"] (spLaw K) := by
  have e := hfa.symm.trans (PySem.W.mg_of X G a_nlaw)
  obtain rfl : f_nlaw = fa := by
    cases e
    rfl
  have F_pool := fun_mk (st := s_pool) l_pool c_pool k_pool
  have b_pool := F_pool.binds (ps := ["script"]) fun _ _ _ _ _ _ us hl => match us, hl with | [_], _ => rfl
  have F_take := fun_mk (st := s_take) l_take c_take k_take
  have b_take := F_take.binds (ps := ["pool", "most"]) fun _ _ _ _ _ _ us hl => match us, hl with | [_, _], _ => rfl
  have F_integer := fun_mk (st := s_integer) l_integer c_integer k_integer
  have b_integer := F_integer.binds (ps := ["thing"]) fun _ _ _ _ _ _ us hl => match us, hl with | [_], _ => rfl
  have F_common := fun_mk (st := s_common) l_common c_common k_common
  have b_common := F_common.binds (ps := ["one", "two"]) fun _ _ _ _ _ _ us hl => match us, hl with | [_, _], _ => rfl
  have F_init : FunD K "__init__" "Ratio.__init__" (defArgs s_init) (defBody s_init) (defScope s_init) [.int 1] [] f_init _ :=
    ⟨⟨oc_init, od_init, .ref dT, kV_init, dc_init, pm_init, an_init, cd_init, ct_init, sl_init, rfl, l_init, c_init, .inr ⟨by simp, dT, _, [.int 1 tkT], nT, rfl, lt, rfl, .cons ⟨tkT, rfl⟩ .nil⟩, .inl rfl⟩, k_init⟩
  obtain ⟨d0, v0, b_init⟩ := F_init.binds1 (ps := ["self", "top", "bottom"]) 3 1 (by simp) rfl fun T kV doc pm an cdv ct us its h1 h2 => match us, h1, its, h2 with | [_, _, _], _, [_], _ => ⟨_, rfl, rfl⟩
  have z0 : d0 = [] := by
    cases v0
    rfl
  subst z0
  obtain ⟨ds, v_init1, b_init1⟩ := F_init.binds1 (ps := ["self", "top", "bottom"]) 2 0 (by simp) rfl fun T kV doc pm an cdv ct us its h1 h2 => match us, h1, its, h2 with | [_, _], _, [_], _ => ⟨_, rfl, rfl⟩
  have F_mul := fun_mk (st := s_mul) l_mul c_mul k_mul
  have b_mul := F_mul.binds (ps := ["self", "other"]) fun _ _ _ _ _ _ us hl => match us, hl with | [_, _], _ => rfl
  have F_neg := fun_mk (st := s_neg) l_neg c_neg k_neg
  have b_neg := F_neg.binds (ps := ["self"]) fun _ _ _ _ _ _ us hl => match us, hl with | [_], _ => rfl
  have F_npowers := fun_mk (st := s_npowers) l_npowers c_npowers k_npowers
  have b_npowers := F_npowers.binds (ps := ["size"]) fun _ _ _ _ _ _ us hl => match us, hl with | [_], _ => rfl
  have F_nwint := fun_mk (st := s_nwint) l_nwint c_nwint k_nwint
  have b_nwint := F_nwint.binds (ps := ["number"]) fun _ _ _ _ _ _ us hl => match us, hl with | [_], _ => rfl
  have F_ncount := fun_mk (st := s_ncount) l_ncount c_ncount k_ncount
  have b_ncount := F_ncount.binds (ps := ["text"]) fun _ _ _ _ _ _ us hl => match us, hl with | [_], _ => rfl
  have F_nstr := fun_mk (st := s_nstr) l_nstr c_nstr k_nstr
  have b_nstr := F_nstr.binds (ps := ["self"]) fun _ _ _ _ _ _ us hl => match us, hl with | [_], _ => rfl
  have b_bt : Binds K (PySem.W.ksFn "__init__" "BadText.__init__" (defArgs s_bt) (defBody s_bt) (defScope s_bt) .none kV_bt dc_bt pm_bt an_bt (.ref cda_bt) ct_bt cc_bt) ["self", "text"] [] := Binds.all fun us hl => match us, hl with | [_, _], _ => rfl
  have F_nread := fun_mk (st := s_nread) l_nread c_nread k_nread
  have b_nread := F_nread.binds (ps := ["text"]) fun _ _ _ _ _ _ us hl => match us, hl with | [_], _ => rfl
  have F_npower := fun_mk (st := s_npower) l_npower c_npower k_npower
  have b_npower := F_npower.binds (ps := ["base", "many"]) fun _ _ _ _ _ _ us hl => match us, hl with | [_, _], _ => rfl
  have F_nsize := fun_mk (st := s_nsize) l_nsize c_nsize k_nsize
  have b_nsize := F_nsize.binds (ps := ["pool"]) fun _ _ _ _ _ _ us hl => match us, hl with | [_], _ => rfl
  have F_nlowest := fun_mk (st := s_nlowest) l_nlowest c_nlowest k_nlowest
  have b_nlowest := F_nlowest.binds (ps := ["above", "below"]) fun _ _ _ _ _ _ us hl => match us, hl with | [_, _], _ => rfl
  have F_ndrawn := fun_mk (st := s_ndrawn) l_ndrawn c_ndrawn k_ndrawn
  have b_ndrawn := F_ndrawn.binds (ps := ["pool"]) fun _ _ _ _ _ _ us hl => match us, hl with | [_], _ => rfl
  have F_nwritten := fun_mk (st := s_nwritten) l_nwritten c_nwritten k_nwritten
  have b_nwritten := F_nwritten.binds (ps := ["pair"]) fun _ _ _ _ _ _ us hl => match us, hl with | [_], _ => rfl
  have F_ngroup := fun_mk (st := s_ngroup) l_ngroup c_ngroup k_ngroup
  have b_ngroup := F_ngroup.binds (ps := ["text"]) fun _ _ _ _ _ _ us hl => match us, hl with | [_], _ => rfl
  have F_njudged := fun_mk (st := s_njudged) l_njudged c_njudged k_njudged
  have b_njudged := F_njudged.binds (ps := ["text"]) fun _ _ _ _ _ _ us hl => match us, hl with | [_], _ => rfl
  have F_nmark := fun_mk (st := s_nmark) l_nmark c_nmark k_nmark
  have b_nmark := F_nmark.binds (ps := ["pool"]) fun _ _ _ _ _ _ us hl => match us, hl with | [_], _ => rfl
  have F_nlong := fun_mk (st := s_nlong) l_nlong c_nlong k_nlong
  have b_nlong := F_nlong.binds (ps := ["pool"]) fun _ _ _ _ _ _ us hl => match us, hl with | [_], _ => rfl
  have F_nspoilt := fun_mk (st := s_nspoilt) l_nspoilt c_nspoilt k_nspoilt
  have b_nspoilt := F_nspoilt.binds (ps := ["pool", "pair"]) fun _ _ _ _ _ _ us hl => match us, hl with | [_, _], _ => rfl
  have F_ntext := fun_mk (st := s_ntext) l_ntext c_ntext k_ntext
  have b_ntext := F_ntext.binds (ps := ["pool", "pair"]) fun _ _ _ _ _ _ us hl => match us, hl with | [_, _], _ => rfl
  have F_nright := fun_mk (st := s_nright) l_nright c_nright k_nright
  have b_nright := F_nright.binds (ps := ["told", "due", "text"]) fun _ _ _ _ _ _ us hl => match us, hl with | [_, _, _], _ => rfl
  have F_nreads := fun_mk (st := s_nreads) l_nreads c_nreads k_nreads
  have b_nreads := F_nreads.binds (ps := ["text", "due"]) fun _ _ _ _ _ _ us hl => match us, hl with | [_, _], _ => rfl
  have F_nfixed := fun_mk (st := s_nfixed) l_nfixed c_nfixed k_nfixed
  have b_nfixed := F_nfixed.binds (ps := []) fun _ _ _ _ _ _ us hl => match us, hl with | [], _ => rfl
  have F_nlaw := fun_mk (st := s_nlaw) l_nlaw c_nlaw k_nlaw
  have b_nlaw := F_nlaw.binds (ps := ["script"]) fun _ _ _ _ _ _ us hl => match us, hl with | [_], _ => rfl
  have cB := exOk_cls lBN qBN
  have oB : OexC K BN := ⟨cB, zs, bB, tBN, kB⟩
  have e64 : (10 : Int) ^ 64 = 10000000000000000000000000000000000000000000000000000000000000000 := by decide +kernel
  have sB : SupC P K mg BN BT := ⟨cB, (PySem.W.any_some dBT).elim fun cd h => ⟨cd, h.1⟩, zb, super_of lBN lSE dr fSE, sve, any, PySem.W.mg_none_of X G n_super, ptop⟩
  have T : Txt P K mg {
      C := C,
      Z := Z,
      pr := pr,
      ds := ds,
      BN := BN,
      BP := BP,
      BQ := BQ,
      BL := BL,
      BT := BT,
      SE := SE,
      f_pool := f_pool,
      d_pool := PySem.W.fnOf "_law_pool" "_law_pool" (defArgs s_pool) (defBody s_pool) (defScope s_pool) .none kV_pool dc_pool pm_pool an_pool cd_pool ct_pool,
      f_take := f_take,
      d_take := PySem.W.fnOf "_law_take" "_law_take" (defArgs s_take) (defBody s_take) (defScope s_take) .none kV_take dc_take pm_take an_take cd_take ct_take,
      f_integer := f_integer,
      d_integer := PySem.W.fnOf "_law_integer" "_law_integer" (defArgs s_integer) (defBody s_integer) (defScope s_integer) .none kV_integer dc_integer pm_integer an_integer cd_integer ct_integer,
      f_common := f_common,
      d_common := PySem.W.fnOf "_law_common" "_law_common" (defArgs s_common) (defBody s_common) (defScope s_common) .none kV_common dc_common pm_common an_common cd_common ct_common,
      f_init := f_init,
      d_init := PySem.W.fnOf "__init__" "Ratio.__init__" (defArgs s_init) (defBody s_init) (defScope s_init) (.ref dT) kV_init dc_init pm_init an_init cd_init ct_init,
      f_mul := f_mul,
      d_mul := PySem.W.fnOf "__mul__" "Ratio.__mul__" (defArgs s_mul) (defBody s_mul) (defScope s_mul) .none kV_mul dc_mul pm_mul an_mul cd_mul ct_mul,
      f_neg := f_neg,
      d_neg := PySem.W.fnOf "__neg__" "Ratio.__neg__" (defArgs s_neg) (defBody s_neg) (defScope s_neg) .none kV_neg dc_neg pm_neg an_neg cd_neg ct_neg,
      f_npowers := f_npowers,
      d_npowers := PySem.W.fnOf "_block_powers" "_block_powers" (defArgs s_npowers) (defBody s_npowers) (defScope s_npowers) .none kV_npowers dc_npowers pm_npowers an_npowers cd_npowers ct_npowers,
      f_nwint := f_nwint,
      d_nwint := PySem.W.fnOf "written_integer" "written_integer" (defArgs s_nwint) (defBody s_nwint) (defScope s_nwint) .none kV_nwint dc_nwint pm_nwint an_nwint cd_nwint ct_nwint,
      f_ncount := f_ncount,
      d_ncount := PySem.W.fnOf "_is_count" "_is_count" (defArgs s_ncount) (defBody s_ncount) (defScope s_ncount) .none kV_ncount dc_ncount pm_ncount an_ncount cd_ncount ct_ncount,
      f_nstr := f_nstr,
      d_nstr := PySem.W.fnOf "__str__" "Ratio.__str__" (defArgs s_nstr) (defBody s_nstr) (defScope s_nstr) .none kV_nstr dc_nstr pm_nstr an_nstr cd_nstr ct_nstr,
      f_bt := f_bt,
      d_bt := PySem.W.ksFn "__init__" "BadText.__init__" (defArgs s_bt) (defBody s_bt) (defScope s_bt) .none kV_bt dc_bt pm_bt an_bt (.ref cda_bt) ct_bt cc_bt,
      f_nread := f_nread,
      d_nread := PySem.W.fnOf "read" "Ratio.read" (defArgs s_nread) (defBody s_nread) (defScope s_nread) .none kV_nread dc_nread pm_nread an_nread cd_nread ct_nread,
      f_npower := f_npower,
      d_npower := PySem.W.fnOf "_law_power" "_law_power" (defArgs s_npower) (defBody s_npower) (defScope s_npower) .none kV_npower dc_npower pm_npower an_npower cd_npower ct_npower,
      f_nsize := f_nsize,
      d_nsize := PySem.W.fnOf "_law_size" "_law_size" (defArgs s_nsize) (defBody s_nsize) (defScope s_nsize) .none kV_nsize dc_nsize pm_nsize an_nsize cd_nsize ct_nsize,
      f_nlowest := f_nlowest,
      d_nlowest := PySem.W.fnOf "_law_lowest" "_law_lowest" (defArgs s_nlowest) (defBody s_nlowest) (defScope s_nlowest) .none kV_nlowest dc_nlowest pm_nlowest an_nlowest cd_nlowest ct_nlowest,
      f_ndrawn := f_ndrawn,
      d_ndrawn := PySem.W.fnOf "_law_drawn" "_law_drawn" (defArgs s_ndrawn) (defBody s_ndrawn) (defScope s_ndrawn) .none kV_ndrawn dc_ndrawn pm_ndrawn an_ndrawn cd_ndrawn ct_ndrawn,
      f_nwritten := f_nwritten,
      d_nwritten := PySem.W.fnOf "_law_written" "_law_written" (defArgs s_nwritten) (defBody s_nwritten) (defScope s_nwritten) .none kV_nwritten dc_nwritten pm_nwritten an_nwritten cd_nwritten ct_nwritten,
      f_ngroup := f_ngroup,
      d_ngroup := PySem.W.fnOf "_law_group" "_law_group" (defArgs s_ngroup) (defBody s_ngroup) (defScope s_ngroup) .none kV_ngroup dc_ngroup pm_ngroup an_ngroup cd_ngroup ct_ngroup,
      f_njudged := f_njudged,
      d_njudged := PySem.W.fnOf "_law_judged" "_law_judged" (defArgs s_njudged) (defBody s_njudged) (defScope s_njudged) .none kV_njudged dc_njudged pm_njudged an_njudged cd_njudged ct_njudged,
      f_nmark := f_nmark,
      d_nmark := PySem.W.fnOf "_law_mark" "_law_mark" (defArgs s_nmark) (defBody s_nmark) (defScope s_nmark) .none kV_nmark dc_nmark pm_nmark an_nmark cd_nmark ct_nmark,
      f_nlong := f_nlong,
      d_nlong := PySem.W.fnOf "_law_long" "_law_long" (defArgs s_nlong) (defBody s_nlong) (defScope s_nlong) .none kV_nlong dc_nlong pm_nlong an_nlong cd_nlong ct_nlong,
      f_nspoilt := f_nspoilt,
      d_nspoilt := PySem.W.fnOf "_law_spoilt" "_law_spoilt" (defArgs s_nspoilt) (defBody s_nspoilt) (defScope s_nspoilt) .none kV_nspoilt dc_nspoilt pm_nspoilt an_nspoilt cd_nspoilt ct_nspoilt,
      f_ntext := f_ntext,
      d_ntext := PySem.W.fnOf "_law_text" "_law_text" (defArgs s_ntext) (defBody s_ntext) (defScope s_ntext) .none kV_ntext dc_ntext pm_ntext an_ntext cd_ntext ct_ntext,
      f_nright := f_nright,
      d_nright := PySem.W.fnOf "_law_right" "_law_right" (defArgs s_nright) (defBody s_nright) (defScope s_nright) .none kV_nright dc_nright pm_nright an_nright cd_nright ct_nright,
      f_nreads := f_nreads,
      d_nreads := PySem.W.fnOf "_law_reads" "_law_reads" (defArgs s_nreads) (defBody s_nreads) (defScope s_nreads) .none kV_nreads dc_nreads pm_nreads an_nreads cd_nreads ct_nreads,
      f_nfixed := f_nfixed,
      d_nfixed := PySem.W.fnOf "_law_fixed" "_law_fixed" (defArgs s_nfixed) (defBody s_nfixed) (defScope s_nfixed) .none kV_nfixed dc_nfixed pm_nfixed an_nfixed cd_nfixed ct_nfixed,
      f_nlaw := f_nlaw,
      d_nlaw := PySem.W.fnOf "law" "law" (defArgs s_nlaw) (defBody s_nlaw) (defScope s_nlaw) .none kV_nlaw dc_nlaw pm_nlaw an_nlaw cd_nlaw ct_nlaw } :=
    {
      isa_Ratio := ⟨⟨pg, hd, po, sa⟩, ca, cn, ct, cm, kit_tyr (by decide +kernel) su2, kit_ref (fun e => by cases e) hd tC su1⟩,
      na_top := nat,
      na_bottom := nab,
      g_Ratio := PySem.W.mg_of X G gC,
      mk_Ratio := ⟨mk, a_init, i_init, kC⟩,
      v_init1 := v_init1,
      b_init1 := b_init1,
      F_init := F_init,
      b_init := b_init,
      g_gcd := PySem.W.mg_of X G ggcd,
      xZ := xZ,
      gZ := PySem.W.mg_of X G gZ,
      kZ := kZ,
      bZ := bZ,
      tZ := tZ,
      te_BN := ⟨oB, a_bt, sB, zt⟩,
      ti_bt := ti_bt,
      bt := ⟨_, _, kV_bt, dc_bt, pm_bt, an_bt, cda_bt, cc_bt, ct_bt, _, l_bt, rfl, c_bt, ⟨_, _, _, _, _, _, lcd, vcd, fcd⟩, ⟨_, _, _, lcc⟩⟩,
      b_bt := b_bt,
      cr_Ratio := ⟨rdC, gaC⟩,
      sm_nread := ⟨a_nread, ⟨_, r_nread⟩, k_nread⟩,
      exc := ⟨⟨zg, zk, bB, dBN, za, cn, ct, zm⟩, PySem.W.exm_ref bB dBN tBN szz, kit_tyr (by decide +kernel) sve, kit_true szz rBT sBT dBT tBT, kit_true szz rSE sSE dSE tSE, kit_other szz sBP dBP tBP, kit_other szz sBQ dBQ tBQ, kit_other szz sBL dBL tBL⟩,
      xf := ⟨zg, zk, bB, dBN⟩,
      nt := zt,
      o_mul := ⟨a_mul, i_mul, sf⟩,
      i_mul := ⟨⟨_, a_rmul, .inr ⟨_, rfl⟩⟩, ⟨_, b1_mul⟩, ⟨_, b2_mul⟩, su1⟩,
      o_neg := a_neg,
      i_neg := i_neg,
      o_nstr := a_nstr,
      i_nstr := i_nstr,
      c_LONGEST_READ := ⟨_, PySem.W.mg_of X G cLONGEST_READ, ⟨tkLONGEST_READ, rfl⟩⟩,
      c_BLOCK_DIGITS := ⟨_, PySem.W.mg_of X G cBLOCK_DIGITS, ⟨tkBLOCK_DIGITS, rfl⟩⟩,
      c_BLOCK := ⟨_, PySem.W.mg_of X G cBLOCK, ⟨tkBLOCK, by rw [e64]⟩⟩,
      g_BadNumber := PySem.W.mg_of X G gBN,
      g_BadPolynomial := PySem.W.mg_of X G gBP,
      g_BadQuestion := PySem.W.mg_of X G gBQ,
      g_BadLine := PySem.W.mg_of X G gBL,
      g_BadText := PySem.W.mg_of X G gBT,
      g_SpotError := PySem.W.mg_of X G gSE,
      n_len := PySem.W.mg_none_of X G n_len,
      n_abs := PySem.W.mg_none_of X G n_abs,
      n_int := PySem.W.mg_none_of X G n_int,
      n_list := PySem.W.mg_none_of X G n_list,
      n_bool := PySem.W.mg_none_of X G n_bool,
      n_max := PySem.W.mg_none_of X G n_max,
      n_isinstance := PySem.W.mg_none_of X G n_isinstance,
      n_range := PySem.W.mg_none_of X G n_range,
      n_ValueError := PySem.W.mg_none_of X G n_ValueError,
      n_str := PySem.W.mg_none_of X G n_str,
      n_divmod := PySem.W.mg_none_of X G n_divmod,
      n_super := PySem.W.mg_none_of X G n_super,
      F_pool := F_pool,
      b_pool := b_pool,
      g_pool := PySem.W.mg_of X G a_pool,
      k_pool := k_pool,
      F_take := F_take,
      b_take := b_take,
      g_take := PySem.W.mg_of X G a_take,
      k_take := k_take,
      F_integer := F_integer,
      b_integer := b_integer,
      g_integer := PySem.W.mg_of X G a_integer,
      k_integer := k_integer,
      F_common := F_common,
      b_common := b_common,
      g_common := PySem.W.mg_of X G a_common,
      k_common := k_common,
      F_mul := F_mul,
      b_mul := b_mul,
      F_neg := F_neg,
      b_neg := b_neg,
      F_npowers := F_npowers,
      b_npowers := b_npowers,
      g_npowers := PySem.W.mg_of X G a_npowers,
      k_npowers := k_npowers,
      F_nwint := F_nwint,
      b_nwint := b_nwint,
      g_nwint := PySem.W.mg_of X G a_nwint,
      k_nwint := k_nwint,
      F_ncount := F_ncount,
      b_ncount := b_ncount,
      g_ncount := PySem.W.mg_of X G a_ncount,
      k_ncount := k_ncount,
      F_nstr := F_nstr,
      b_nstr := b_nstr,
      F_nread := F_nread,
      b_nread := b_nread,
      F_npower := F_npower,
      b_npower := b_npower,
      g_npower := PySem.W.mg_of X G a_npower,
      k_npower := k_npower,
      F_nsize := F_nsize,
      b_nsize := b_nsize,
      g_nsize := PySem.W.mg_of X G a_nsize,
      k_nsize := k_nsize,
      F_nlowest := F_nlowest,
      b_nlowest := b_nlowest,
      g_nlowest := PySem.W.mg_of X G a_nlowest,
      k_nlowest := k_nlowest,
      F_ndrawn := F_ndrawn,
      b_ndrawn := b_ndrawn,
      g_ndrawn := PySem.W.mg_of X G a_ndrawn,
      k_ndrawn := k_ndrawn,
      F_nwritten := F_nwritten,
      b_nwritten := b_nwritten,
      g_nwritten := PySem.W.mg_of X G a_nwritten,
      k_nwritten := k_nwritten,
      F_ngroup := F_ngroup,
      b_ngroup := b_ngroup,
      g_ngroup := PySem.W.mg_of X G a_ngroup,
      k_ngroup := k_ngroup,
      F_njudged := F_njudged,
      b_njudged := b_njudged,
      g_njudged := PySem.W.mg_of X G a_njudged,
      k_njudged := k_njudged,
      F_nmark := F_nmark,
      b_nmark := b_nmark,
      g_nmark := PySem.W.mg_of X G a_nmark,
      k_nmark := k_nmark,
      F_nlong := F_nlong,
      b_nlong := b_nlong,
      g_nlong := PySem.W.mg_of X G a_nlong,
      k_nlong := k_nlong,
      F_nspoilt := F_nspoilt,
      b_nspoilt := b_nspoilt,
      g_nspoilt := PySem.W.mg_of X G a_nspoilt,
      k_nspoilt := k_nspoilt,
      F_ntext := F_ntext,
      b_ntext := b_ntext,
      g_ntext := PySem.W.mg_of X G a_ntext,
      k_ntext := k_ntext,
      F_nright := F_nright,
      b_nright := b_nright,
      g_nright := PySem.W.mg_of X G a_nright,
      k_nright := k_nright,
      F_nreads := F_nreads,
      b_nreads := b_nreads,
      g_nreads := PySem.W.mg_of X G a_nreads,
      k_nreads := k_nreads,
      F_nfixed := F_nfixed,
      b_nfixed := b_nfixed,
      g_nfixed := PySem.W.mg_of X G a_nfixed,
      k_nfixed := k_nfixed,
      F_nlaw := F_nlaw,
      b_nlaw := b_nlaw,
      g_nlaw := PySem.W.mg_of X G a_nlaw,
      k_nlaw := k_nlaw }
  exact ⟨_, fun s v => .of_eq rfl, fun base _ _ => ok_nlaw T⟩
theorem walk {l : PySem.W.OpenLaw} {q : Program} {loose : List Str} {XP : (Str → Option Value) → Heap → Prop} {YP : World → Heap → Prop} {d : DefRec} {K : Params → PySem.W.Frag} (hn : l.most = some 63) (hdf : d.params.defaults = [])
    (hY : ∀ (w : World) (h : Heap), YP w h → (K w.params).In h)
    (F : ∀ (w : World) (mg : Str → Option Value) (fa : Addr) (h : Heap), (K w.params).In h → h.Ns mainGlobals mg → mg d.name = some (.ref fa) →
      ∃ fd : FuncData, (∀ (s : Shared) (u : Value), BindsTo s fd ⟨[u], []⟩ [("script", u)]) ∧ ∀ base : Heap, (K w.params).In base → base.Ns mainGlobals mg → FnOk l.prog w (K w.params) mg base CX0 8 fa fd ["script"] (spLaw (K w.params))) :
    PySem.W.WalkO q loose XP YP l.row.toRowW d [] (fun f vs => PySem.call f vs) :=
  L2.walk_of (n := 63) (k := 8) (x := "script") (CX := fun _ => CX0) (sp := fun w => spLaw (K w.params)) hn (by decide) hdf ⟨rfl, by decide, by decide⟩ hY F (fun _ _ a ns hl _ hS => ⟨a, ns, rfl, hS, hl, fun _ => rfl⟩) fun _ _ _ _ _ z => z
end SpX

set_option Elab.async false
open PySem PySem.W PyProof.Rows
set_option maxRecDepth 100000 in
set_option maxHeartbeats 0 in
theorem PySem.Challenge.cw_spotheights_k01_number_texts_holds : PySem.Challenge.rw_spotheights_k01_number_texts.Holds := by
  w_on; o_law; k_head; (case hw => w_witness2)
  k_fill
  refine SpX.walk (l := PySem.Challenge.rw_spotheights_k01_number_texts) rfl rfl (fun w h Y => PySem.W.kIn_of Y) ?F
  case F =>
    intro w mg fa h KX G hmg
    refine' SpX.all_mk KX G hmg ?gC ?gZ ?gBN ?gBP ?gBQ ?gBL ?gBT ?gSE ?n_len ?n_abs ?n_int ?n_list ?n_bool ?n_max ?n_isinstance ?n_range ?n_ValueError ?n_str ?n_divmod ?n_super ?ggcd ?cLONGEST_READ ?cBLOCK_DIGITS ?cBLOCK ?pg ?hd ?po ?sa ?ca ?cn ?ct ?cm ?tC ?nat ?nab ?mk ?kC ?sf ?su1 ?su2 ?rdC ?gaC ?b1_mul ?b2_mul ?a_rmul ?xZ ?kZ ?bZ ?tZ ?zg ?zk ?za ?zs ?zt ?zm ?zb ?bB ?kB ?sve ?szz ?dBN ?tBN ?dBP ?tBP ?sBP ?dBQ ?tBQ ?sBQ ?dBL ?tBL ?sBL ?dBT ?tBT ?sBT ?rBT ?dSE ?tSE ?sSE ?rSE ?lBN ?qBN ?lSE ?dr ?fSE ?any ?ptop ?a_pool ?l_pool ?c_pool ?k_pool ?a_take ?l_take ?c_take ?k_take ?a_integer ?l_integer ?c_integer ?k_integer ?a_common ?l_common ?c_common ?k_common ?a_init ?i_init ?l_init ?c_init ?k_init ?a_mul ?i_mul ?l_mul ?c_mul ?k_mul ?a_neg ?i_neg ?l_neg ?c_neg ?k_neg ?a_npowers ?l_npowers ?c_npowers ?k_npowers ?a_nwint ?l_nwint ?c_nwint ?k_nwint ?a_ncount ?l_ncount ?c_ncount ?k_ncount ?a_nstr ?i_nstr ?l_nstr ?c_nstr ?k_nstr ?a_bt ?ti_bt ?l_bt ?c_bt ?lcd ?vcd ?fcd ?lcc ?a_nread ?r_nread ?l_nread ?c_nread ?k_nread ?a_npower ?l_npower ?c_npower ?k_npower ?a_nsize ?l_nsize ?c_nsize ?k_nsize ?a_nlowest ?l_nlowest ?c_nlowest ?k_nlowest ?a_ndrawn ?l_ndrawn ?c_ndrawn ?k_ndrawn ?a_nwritten ?l_nwritten ?c_nwritten ?k_nwritten ?a_ngroup ?l_ngroup ?c_ngroup ?k_ngroup ?a_njudged ?l_njudged ?c_njudged ?k_njudged ?a_nmark ?l_nmark ?c_nmark ?k_nmark ?a_nlong ?l_nlong ?c_nlong ?k_nlong ?a_nspoilt ?l_nspoilt ?c_nspoilt ?k_nspoilt ?a_ntext ?l_ntext ?c_ntext ?k_ntext ?a_nright ?l_nright ?c_nright ?k_nright ?a_nreads ?l_nreads ?c_nreads ?k_nreads ?a_nfixed ?l_nfixed ?c_nfixed ?k_nfixed ?a_nlaw ?l_nlaw ?c_nlaw ?k_nlaw ?lt
    (case gC => k_is)
    (case gZ => k_is)
    (case gBN => k_is)
    (case gBP => k_is)
    (case gBQ => k_is)
    (case gBL => k_is)
    (case gBT => k_is)
    (case gSE => k_is)
    (case n_len => k_is)
    (case n_abs => k_is)
    (case n_int => k_is)
    (case n_list => k_is)
    (case n_bool => k_is)
    (case n_max => k_is)
    (case n_isinstance => k_is)
    (case n_range => k_is)
    (case n_ValueError => k_is)
    (case n_str => k_is)
    (case n_divmod => k_is)
    (case n_super => k_is)
    (case ggcd => k_is)
    (case cLONGEST_READ => k_is)
    (case cBLOCK_DIGITS => k_is)
    (case cBLOCK => k_is)
    (case pg => k_is)
    (case hd => k_is)
    (case po => k_is)
    (case sa => k_is)
    (case ca => k_is)
    (case cn => k_is)
    (case ct => k_is)
    (case cm => k_is)
    (case tC => k_is)
    (case nat => k_is)
    (case nab => k_is)
    (case mk => k_is)
    (case kC => k_is)
    (case sf => k_is)
    (case su1 => k_is)
    (case su2 => k_is)
    (case rdC => k_is)
    (case gaC => k_is)
    (case b1_mul => k_is)
    (case b2_mul => k_is)
    (case a_rmul => k_is)
    (case xZ => k_exc)
    (case kZ => k_is)
    (case bZ => k_is)
    (case tZ => k_is)
    (case zg => k_is)
    (case zk => k_is)
    (case za => k_is)
    (case zs => k_is)
    (case zt => k_is)
    (case zm => k_is)
    (case zb => k_is)
    (case bB => k_is)
    (case kB => k_is)
    (case sve => k_is)
    (case szz => first | rfl | k_is)
    (case dBN => k_is)
    (case tBN => k_is)
    (case dBP => k_is)
    (case tBP => k_is)
    (case sBP => k_is)
    (case dBQ => k_is)
    (case tBQ => k_is)
    (case sBQ => k_is)
    (case dBL => k_is)
    (case tBL => k_is)
    (case sBL => k_is)
    (case dBT => k_is)
    (case tBT => k_is)
    (case sBT => k_is)
    (case rBT => k_is)
    (case dSE => k_is)
    (case tSE => k_is)
    (case sSE => k_is)
    (case rSE => k_is)
    (case lBN => k_is)
    (case qBN => first | rfl | decide +kernel)
    (case lSE => k_is)
    (case dr => first | rfl | decide +kernel)
    (case fSE => k_is)
    (case any => k_is)
    (case ptop => first | rfl | decide +kernel)
    (case a_pool => k_is)
    (case l_pool => k_is)
    (case c_pool => k_is)
    (case k_pool => k_is)
    (case a_take => k_is)
    (case l_take => k_is)
    (case c_take => k_is)
    (case k_take => k_is)
    (case a_integer => k_is)
    (case l_integer => k_is)
    (case c_integer => k_is)
    (case k_integer => k_is)
    (case a_common => k_is)
    (case l_common => k_is)
    (case c_common => k_is)
    (case k_common => k_is)
    (case a_init => k_is)
    (case i_init => k_is)
    (case l_init => k_is)
    (case c_init => k_is)
    (case k_init => k_is)
    (case a_mul => k_is)
    (case i_mul => k_is)
    (case l_mul => k_is)
    (case c_mul => k_is)
    (case k_mul => k_is)
    (case a_neg => k_is)
    (case i_neg => k_is)
    (case l_neg => k_is)
    (case c_neg => k_is)
    (case k_neg => k_is)
    (case a_npowers => k_is)
    (case l_npowers => k_is)
    (case c_npowers => k_is)
    (case k_npowers => k_is)
    (case a_nwint => k_is)
    (case l_nwint => k_is)
    (case c_nwint => k_is)
    (case k_nwint => k_is)
    (case a_ncount => k_is)
    (case l_ncount => k_is)
    (case c_ncount => k_is)
    (case k_ncount => k_is)
    (case a_nstr => k_is)
    (case i_nstr => k_is)
    (case l_nstr => k_is)
    (case c_nstr => k_is)
    (case k_nstr => k_is)
    (case a_bt => k_is)
    (case ti_bt => k_is)
    (case l_bt => k_is)
    (case c_bt => k_is)
    (case lcd => k_is)
    (case vcd => rfl)
    (case fcd => first | rfl | decide +kernel)
    (case lcc => k_is)
    (case a_nread => k_is)
    (case r_nread => k_is)
    (case l_nread => k_is)
    (case c_nread => k_is)
    (case k_nread => k_is)
    (case a_npower => k_is)
    (case l_npower => k_is)
    (case c_npower => k_is)
    (case k_npower => k_is)
    (case a_nsize => k_is)
    (case l_nsize => k_is)
    (case c_nsize => k_is)
    (case k_nsize => k_is)
    (case a_nlowest => k_is)
    (case l_nlowest => k_is)
    (case c_nlowest => k_is)
    (case k_nlowest => k_is)
    (case a_ndrawn => k_is)
    (case l_ndrawn => k_is)
    (case c_ndrawn => k_is)
    (case k_ndrawn => k_is)
    (case a_nwritten => k_is)
    (case l_nwritten => k_is)
    (case c_nwritten => k_is)
    (case k_nwritten => k_is)
    (case a_ngroup => k_is)
    (case l_ngroup => k_is)
    (case c_ngroup => k_is)
    (case k_ngroup => k_is)
    (case a_njudged => k_is)
    (case l_njudged => k_is)
    (case c_njudged => k_is)
    (case k_njudged => k_is)
    (case a_nmark => k_is)
    (case l_nmark => k_is)
    (case c_nmark => k_is)
    (case k_nmark => k_is)
    (case a_nlong => k_is)
    (case l_nlong => k_is)
    (case c_nlong => k_is)
    (case k_nlong => k_is)
    (case a_nspoilt => k_is)
    (case l_nspoilt => k_is)
    (case c_nspoilt => k_is)
    (case k_nspoilt => k_is)
    (case a_ntext => k_is)
    (case l_ntext => k_is)
    (case c_ntext => k_is)
    (case k_ntext => k_is)
    (case a_nright => k_is)
    (case l_nright => k_is)
    (case c_nright => k_is)
    (case k_nright => k_is)
    (case a_nreads => k_is)
    (case l_nreads => k_is)
    (case c_nreads => k_is)
    (case k_nreads => k_is)
    (case a_nfixed => k_is)
    (case l_nfixed => k_is)
    (case c_nfixed => k_is)
    (case k_nfixed => k_is)
    (case a_nlaw => k_is)
    (case l_nlaw => k_is)
    (case c_nlaw => k_is)
    (case k_nlaw => k_is)
    (case lt => k_is)

