import PyProof.Rows.All
import Wide.All
import OpenK.AllK
import Wide.FinOn
import HandS.ForMost
import HandS.ForExc
import HandS.Wide
import HandS.WideBits
import HandS.Gcd
import HandS.IsInst
import HandS.ExcIs
import HandS.Codes
import HandS.Defaults
import KE.KOpsOwn
import HandS.OwnEq
import PyProof.Rows.Range3
import HandS.List
import HandS.Words
import HandS.WordsExc
import HandS.ExcInit
import KE.KExcSuper
import HandS.ExcOwn
import HandS.ClsMeth
import HandS.FStr
import HandS.Style
import HandS.StrMore
import HandS.Text
import HandS.ExcField
import KE.KCallOwn
import KE.KExcIs
import KE.KMethU
import PyProof.StrBlock2
import KE.DataEq
import PyProof.Rows.StrFirst
import PyProof.Rows.StrCut
import PyProof.Rows.StrPartPair
import PyProof.Rows.StrDigitsNeg
import KE.IntTextLaws
import HandS.TupLen
import KE.KMathGC
import PyProof.WalksMore
import PyProof.SumWalkG
import HandS.GenList
import HandS.SortKw
import KE.SortKeyHeap
import HandS.Exc
import HandS.More
import HandS.SortInts
import HandS.TupMul
import HandS.Conv
import KE.KEqDeep
import HandS.Comp
import HandS.Iter
import HandS.Zip
import HandS.Star
import PySem.Challenge.RW_spotheights_k26_orders_arrange
import KE.KExcLine
set_option Elab.async false
set_option linter.all false
set_option maxRecDepth 100000
set_option maxHeartbeats 2000000
/-! Readings run by simp, from the outside in: one equation a construct. -/
namespace SpX
open PySem PySem.Spec L2

section
variable {D : Ends} {σ : L2.St} {H : Hp} {Q : VK} {R : Bool → Hp → Prop} {t u : TS} {te ta tb : TE} {tc tt tu : TT} {g : TG} {i : Nat} {v x y : V} {o : Option V} {r : R2} {K : PySem.W.Frag}
theorem x_seq : tSeq t u D σ H = t { D with nx := u D } σ H := rfl
theorem x_next : tNext D σ H = D.nx σ H := rfl
theorem x_asg : tAsg te g D σ H = te σ H (fun x H1 => g x σ H1 D.nx) := rfl
theorem x_name {Q : L2.St → Hp → Prop} : gName i v σ H Q = Q (σ.set i (some v)) H := rfl
theorem x_drop : tDrop te D σ H = te σ H (fun _ H1 => D.nx σ H1) := rfl
theorem x_ret : tRet te D σ H = te σ H D.rt := rfl
theorem x_if : tIfS tc t u D σ H = tc σ H (fun b H1 => if b = true then t D σ H1 else u D σ H1) := rfl
theorem x_var0 : tVar 0 (some v :: σ) H Q = Q v H := by
  unfold tVar
  simp
theorem x_varS : tVar (i + 1) (o :: σ) H Q = tVar i σ H Q := by
  unfold tVar
  simp
theorem x_c : tC v σ H Q = Q v H := rfl
theorem x_op : tOp r ta tb σ H Q = ta σ H (fun x H1 => tb σ H1 fun y H2 => r x y H2 Q) := rfl
theorem x_un {r : V → Hp → VK → Prop} : tUn r ta σ H Q = ta σ H (fun x H1 => r x H1 Q) := rfl
theorem x_I0 {g : Int → Int → V} {a b : Int} : rI0 g (.int a) (.int b) H Q = Q (g a b) H := by
  unfold rI0
  simp
theorem x_I {C : Int → Int → Prop} {g : Int → Int → V} {a b : Int} : rI C g (.int a) (.int b) H Q = (C a b ∧ Q (g a b) H) := by
  unfold rI
  simp
theorem x_U {g : Int → V} {a : Int} : rU g (.int a) H Q = Q (g a) H := by
  unfold rU
  simp
theorem x_test : tTest te σ H R = te σ H (fun x H' => ∃ k, x = .bl k ∧ R k H') := rfl
theorem x_B : tB te σ H R = te σ H (fun x H' => ∃ k, x = .bl k ∧ R k H') := rfl
theorem x_bl {b : Bool} {P : Bool → Prop} : (∃ k, V.bl b = .bl k ∧ P k) = P b := by simp
theorem x_not : tNot tt σ H R = tt σ H (fun c H1 => R (!c) H1) := rfl
theorem x_and : tAnd tt tu σ H R = tt σ H (fun c H1 => if c = true then tu σ H1 R else R false H1) := rfl
theorem x_or : tOr tt tu σ H R = tt σ H (fun c H1 => if c = true then R true H1 else tu σ H1 R) := rfl
theorem x_andV : tAndV ta tb σ H Q = ta σ H (fun x H1 => ∃ c, x = .bl c ∧ if c = true then tb σ H1 Q else Q (.bl false) H1) := rfl
theorem x_orV : tOrV ta tb σ H Q = ta σ H (fun x H1 => ∃ c, x = .bl c ∧ if c = true then Q (.bl true) H1 else tb σ H1 Q) := rfl
theorem x_notV : tNotV ta σ H Q = ta σ H (fun x H1 => ∃ c, x = .bl c ∧ Q (.bl (!c)) H1) := rfl
theorem x_ifE : tIf tt ta tb σ H Q = tt σ H (fun c H1 => if c = true then ta σ H1 Q else tb σ H1 Q) := rfl
theorem x_eqI {a b : Int} : rEq (.int a) (.int b) H Q = Q (.bl (decide (a = b))) H := by
  unfold rEq scal
  simp
theorem x_neI {a b : Int} : rNe (.int a) (.int b) H Q = Q (.bl (!decide (a = b))) H := by
  unfold rNe scal
  simp
theorem x_eqB {a b : Bool} : rEq (.bl a) (.bl b) H Q = Q (.bl (decide (a = b))) H := by
  unfold rEq scal
  simp
theorem x_neB {a b : Bool} : rNe (.bl a) (.bl b) H Q = Q (.bl (!decide (a = b))) H := by
  unfold rNe scal
  simp
theorem x_nil {QA : List V → Hp → Prop} : tNil σ H QA = QA [] H := rfl
theorem x_cons {ta : TE} {tr : TA} {QA : List V → Hp → Prop} : tCons ta tr σ H QA = ta σ H (fun x H1 => tr σ H1 fun xs H2 => QA (x :: xs) H2) := rfl
theorem x_cb {r : List V → Hp → VK → Prop} {t : TA} : tCB r t σ H Q = t σ H (fun vs H1 => r vs H1 Q) := rfl
theorem x_call {sp : Sp} {dvs : List V} {E : XK} {t : TA} : tCall sp dvs E t σ H Q = t σ H (fun vs H1 => sp (vs ++ dvs) H1 Q E) := rfl
theorem x_lst {t : TA} : tLst t σ H Q = t σ H (fun xs H1 => xs.length ≤ sizeLine ∧ ∀ p, H1 p = none → Q (.ref p) (upd H1 p (.lst xs))) := rfl
theorem x_tup {t : TA} : tTup t σ H Q = t σ H (fun xs H1 => xs.length ≤ sizeLine ∧ ∀ p, H1 p = none → Q (.ref p) (upd H1 p (.tup xs))) := rfl
theorem x_gsub {to ti : TE} {ts : TSet} {Q : L2.St → Hp → Prop} : gSub to ti ts v σ H Q = to σ H (fun o H1 => ti σ H1 fun i H2 => ts o i v H2 fun H3 => Q σ H3) := rfl
theorem x_sl {r : V → Option Int → Option Int → Hp → VK → Prop} {tl th : TO} : tSl r te tl th σ H Q = te σ H (fun x H1 => tl σ H1 fun l H2 => th σ H2 fun u H3 => r x l u H3 Q) := rfl
theorem x_part {QO : Option Int → Hp → Prop} : tPart te σ H QO = te σ H (fun x H1 => ∃ i, x = .int i ∧ QO (some i) H1) := rfl
theorem x_nopart {QO : Option Int → Hp → Prop} : tNoPart σ H QO = QO none H := rfl
theorem x_int {a : Int} {P : Int → Prop} : (∃ k, V.int a = .int k ∧ P k) = P a := by simp
theorem x_set0 {α : Type} {a b : α} {l : List α} : (a :: l).set 0 b = b :: l := rfl
theorem x_setS {α : Type} {a b : α} {l : List α} : (a :: l).set (i + 1) b = a :: l.set i b := rfl

/-! ### reads of what is tracked -/
theorem SqL.at {p : Addr} {xs : List V} (h : H p = some (.lst xs)) : SqL K H p xs := .inl (.inl h)
theorem SqT.at {p : Addr} {xs : List V} (h : H p = some (.tup xs)) : SqT K H p xs := .inl (.inl h)
end
end SpX

set_option Elab.async false
set_option linter.all false
set_option maxRecDepth 100000
set_option maxHeartbeats 4000000
/-! Operators of a class of the text's own: the rules for instances beside instances and ints. -/
namespace SpX
open PySem PySem.Spec PyProof.Rows L2
section
variable {X : Cx} {CX : CXT} {k : Nat} {f C : Addr} {fd : FuncData} {ps : List Str} {sp : Sp} {E : XK} {op : Operator}

/-- // by a divisor of either sign -/
def CDivF (_ j : Int) : Prop := j ≠ 0 ∧ j.natAbs.log2 < 9000
theorem op_fdivF : OpR X (binaryOp .FloorDiv) (rI CDivF fun i j => .int (i.fdiv j)) := opI fun i j _ _ _ _ _ hc q => PyProof.Rows.floordiv_int hc.1 q (.inl (PyProof.noPylong_of_log2 hc.2))

theorem ep_back {pins : List (Addr × Obj)} {σ : L2.St} {Q : VK} {u : Value} {s' : Shared} (h : EP X pins σ Q u s') : PySem.W.CmpBack (EP X pins σ Q) u s' := by
  cases u with
  | notImplemented =>
    obtain ⟨v, H', I, r, q⟩ := h
    cases v <;> first
      | exact nomatch (show Value.notImplemented = _ from r)
      | exact (let ⟨_, e⟩ := (show ∃ t, Value.notImplemented = _ from r); nomatch e)
  | _ => exact h

/-- what the text must say of the operator op of the class at C: f its method -/
structure OwnOp (K : PySem.W.Frag) (C : Addr) (op : Operator) (f : Addr) : Prop where
  hs : PySem.W.findIn K (.ref C) (PySem.dunder op.info.2) = some (some (.ref f))
  hf : PySem.W.isFn K (.ref f) = true
  hc : PySem.W.selfFirst K C = true
/-- .. beside an int -/
structure OwnInt (K : PySem.W.Frag) (C : Addr) (op : Operator) : Prop where
  hr : ∃ rc, PySem.W.findIn K (.ref C) (dunderR op.info.2) = some rc ∧ (rc = none ∨ ∃ g : Addr, rc = some (.ref g))
  h1 : ∃ fo, PySem.W.findIn K (.type "int") (PySem.dunder op.info.2) = some fo
  h2 : ∃ ro, PySem.W.findIn K (.type "int") (dunderR op.info.2) = some ro
  hsub : PySem.W.subIn K (.type "int") (.ref C) = some false

/-- instance op instance -/
def rOwn2 (C : Addr) (sp : Sp) (E : XK) : R2 := fun x y H Q => ∃ a b dx dy fs gs, x = .ref a ∧ y = .ref b ∧ H a = some (.ins C dx fs) ∧ H b = some (.ins C dy gs) ∧ sp [.ref a, .ref b] H Q E
theorem op_own2 (O : OwnOp X.K C op f) (F : FnOk X.prog X.w X.K X.mg X.base CX k f fd ps sp) (hr : Room k X.A) (hb : Binds X.K fd ps []) (hx : Passes CX X E) : OpR X (binaryOp op) (rOwn2 C sp E) := by
  intro pins s σ H x y v u Q I rx ry h
  obtain ⟨a, b, dx, dy, fs, gs, rfl, rfl, ha, hb', hsp⟩ := h
  cases rx
  cases ry
  obtain ⟨mA, J, _⟩ := ins_get I.hok ha
  obtain ⟨mB, J', _⟩ := ins_get I.hok hb'
  obtain ⟨od, J, _⟩ := J.look
  obtain ⟨od', J', _⟩ := J'.look
  obtain ⟨m, hF⟩ := I.fr
  refine PySem.W.binop_K hF I.ok.mod.kin J J'.type O.hc O.hs O.hf ?_
  refine thn (run_fn (us := [.ref a, .ref b]) (vs := [.ref a, .ref b]) (dvs := []) F hr hb .nil hx I (.cons rfl (.cons rfl .nil)) hsp) fun u s' q => ep_back q
/-- instance op int -/
def rOwnI (C : Addr) (sp : Sp) (E : XK) : R2 := fun x y H Q => ∃ a i dx fs, x = .ref a ∧ y = .int i ∧ H a = some (.ins C dx fs) ∧ sp [.ref a, .int i] H Q E
theorem op_ownI (O : OwnOp X.K C op f) (N : OwnInt X.K C op) (F : FnOk X.prog X.w X.K X.mg X.base CX k f fd ps sp) (hr : Room k X.A) (hb : Binds X.K fd ps []) (hx : Passes CX X E) : OpR X (binaryOp op) (rOwnI C sp E) := by
  intro pins s σ H x y v u Q I rx ry h
  obtain ⟨a, i, dx, fs, rfl, rfl, ha, hsp⟩ := h
  cases rx
  obtain ⟨t, rfl⟩ := ry
  obtain ⟨mA, J, _⟩ := ins_get I.hok ha
  obtain ⟨od, J, _⟩ := J.look
  obtain ⟨m, hF⟩ := I.fr
  obtain ⟨rc, h3, h4⟩ := N.hr
  obtain ⟨fo, h1⟩ := N.h1
  obtain ⟨ro, h2⟩ := N.h2
  refine PySem.W.ksp_binT (T := "int") hF I.ok.mod.kin J rfl O.hc O.hs O.hf h3 h4 h1 h2 N.hsub ?_
  refine thn (run_fn (us := [.ref a, .int i t]) (vs := [.ref a, .int i]) (dvs := []) F hr hb .nil hx I (.cons rfl (.cons ⟨t, rfl⟩ .nil)) hsp) fun u s' q => ep_back q
/-- - instance -/
def rOwnU (C : Addr) (sp : Sp) (E : XK) : V → Hp → VK → Prop := fun x H Q => ∃ a dx fs, x = .ref a ∧ H a = some (.ins C dx fs) ∧ sp [.ref a] H Q E
theorem un_own (hs : PySem.W.findIn X.K (.ref C) "__neg__" = some (some (.ref f))) (hf : PySem.W.isFn X.K (.ref f) = true) (F : FnOk X.prog X.w X.K X.mg X.base CX k f fd ps sp) (hr : Room k X.A) (hb : Binds X.K fd ps []) (hx : Passes CX X E) :
    UnR X (unaryOp .USub) (rOwnU C sp E) := by
  intro pins s σ H x v Q I rx h
  obtain ⟨a, dx, fs, rfl, ha, hsp⟩ := h
  cases rx
  obtain ⟨mA, J, _⟩ := ins_get I.hok ha
  obtain ⟨od, J, _⟩ := J.look
  obtain ⟨m, hF⟩ := I.fr
  refine PySem.W.ksp_neg hF I.ok.mod.kin J hs hf ?_
  exact run_fn (us := [.ref a]) (vs := [.ref a]) (dvs := []) F hr hb .nil hx I (.cons rfl .nil) hsp

/-- the callee runs below a builtin -/
theorem run_fnA {A : Around} {pins : List (Addr × Obj)} {σ : L2.St} {H : Hp} {s : Shared} {Q : VK} {us : List Value} {vs : List V} (sb : Sub X k A) (F : FnOk X.prog X.w X.K X.mg X.base CX k f fd ps sp) (hb : Binds X.K fd ps []) (hx : Passes CX X E)
    (I : Inv X pins σ H s) (r : Vals vs us) (h : sp vs H Q E) : wpAny (model X.prog X.w) A (call (.ref f) us) (EP X pins σ Q) X.xe s := by
  have e0 : Env0 X.prog X.w X.K X.mg X.base A X.stack s H := by
    have e := I.env0
    exact ⟨by rw [sb.fr]; exact e.frames, e.mod, e.bs, e.bsz, e.funs, e.frf, e.hok, e.bare⟩
  have hl := F.len _ _ _ _ h
  have b := hb s us I.kIn (by rw [List.append_nil, ← r.length]; exact hl)
  rw [List.append_nil] at b
  refine wpAny_call (codeAny_mono (F.run A X.stack s H ⟨us, []⟩ us vs Q E sb.room e0 b r h) fun r s' hq => ?_)
  cases r with
  | error e => exact hx pins σ H s e s' I hq
  | ok fl =>
    cases fl with
    | ret u => exact I.after hq
    | next => exact False.elim hq
    | brk => exact False.elim hq
    | cont => exact False.elim hq
/-- abs(instance) -/
def rOwnAbs (C : Addr) (sp : Sp) (E : XK) : List V → Hp → VK → Prop := fun xs H Q => ∃ a dx fs, xs = [.ref a] ∧ H a = some (.ins C dx fs) ∧ sp [.ref a] H Q E
theorem call_absOwn (hs : PySem.W.findIn X.K (.ref C) "__abs__" = some (some (.ref f))) (hf : PySem.W.isFn X.K (.ref f) = true) (F : FnOk X.prog X.w X.K X.mg X.base CX k f fd ps sp) (hr : Room (k + 1) X.A) (hb : Binds X.K fd ps []) (hx : Passes CX X E) :
    CallR X (.builtin "abs") (rOwnAbs C sp E) := by
  intro pins s σ H xs us Q I r h
  obtain ⟨a, dx, fs, rfl, ha, hsp⟩ := h
  obtain ⟨u, rfl, rx⟩ := vals1 r
  cases rx
  obtain ⟨mA, J, _⟩ := ins_get I.hok ha
  obtain ⟨od, J, _⟩ := J.look
  refine PySem.Calls.call_function_entry kind_abs plain_abs entry_abs (args_abs _) ?_
  unfold Builtin.«abs»
  refine wpAny_bind (m := oneArg "abs" _) (wpAny_pure ?_)
  refine wpAny_bind (m := callSpecial? (.ref a) (Str.ofString "__abs__")) (PySem.W.special_fn I.kIn J hs (beq_iff_eq.mp hf) ?_)
  have sb : Sub X k X.A.in1 := Sub.in1 ⟨hr, rfl⟩
  refine thn (run_fnA (us := [.ref a]) (vs := [.ref a]) sb F hb hx I (.cons rfl .nil) hsp) fun u s' q => ?_
  exact wpAny_pure ⟨_, rfl, q⟩
/-- bool(instance) -/
def rOwnBool (C : Addr) (sp : Sp) (E : XK) : List V → Hp → VK → Prop := fun xs H Q => ∃ a dx fs, xs = [.ref a] ∧ H a = some (.ins C dx fs) ∧ sp [.ref a] H (fun v H' => ∃ b, v = .bl b ∧ Q (.bl b) H') E
theorem truthy_own {A : Around} {pins : List (Addr × Obj)} {s : Shared} {σ : L2.St} {H : Hp} {a dx : Addr} {fs : List (Str × V)} {Q : Bool → Hp → Prop} (sb : Sub X k A) (hs : PySem.W.findIn X.K (.ref C) "__bool__" = some (some (.ref f))) (hf : PySem.W.isFn X.K (.ref f) = true) (F : FnOk X.prog X.w X.K X.mg X.base CX k f fd ps sp)
    (hb : Binds X.K fd ps []) (hx : Passes CX X E) (I : Inv X pins σ H s) (ha : H a = some (.ins C dx fs)) (h : sp [.ref a] H (fun v H' => ∃ b, v = .bl b ∧ Q b H') E) : wpAny (model X.prog X.w) A (truthy (.ref a)) (TP X pins σ Q) X.xe s := by
  obtain ⟨mA, J, _⟩ := ins_get I.hok ha
  obtain ⟨od, J, _⟩ := J.look
  obtain ⟨m, hF⟩ := I.fr
  refine PySem.W.truthy_K hF I.ok.mod.kin J hs hf ?_
  refine thn (run_fnA (us := [.ref a]) (vs := [.ref a]) sb F hb hx I (.cons rfl .nil) h) fun u s' q => ?_
  obtain ⟨v, H', I', r, b, rfl, q⟩ := q
  cases r
  exact ⟨H', I', q⟩
theorem call_boolOwn (hs : PySem.W.findIn X.K (.ref C) "__bool__" = some (some (.ref f))) (hf : PySem.W.isFn X.K (.ref f) = true) (F : FnOk X.prog X.w X.K X.mg X.base CX k f fd ps sp) (hr : Room (k + 2) X.A) (hb : Binds X.K fd ps []) (hx : Passes CX X E) :
    CallR X (.type "bool") (rOwnBool C sp E) := by
  intro pins s σ H xs us Q I r h
  obtain ⟨a, dx, fs, rfl, ha, hsp⟩ := h
  obtain ⟨u, rfl, rx⟩ := vals1 r
  cases rx
  have sb : Sub X k X.A.in1.in1 := Sub.in1 (Sub.in1 (⟨hr, rfl⟩ : Sub X (k + 2) X.A))
  refine callType_newIn (S := fun A R s => wpAny (model X.prog X.w) A.in1 (truthy (.ref a)) (fun b s' => R (.ok (.ret (.bool b))) s') (fun e s' => R (.error e) s') s)
    PySem.F.called_bool PySem.F.newNe_bool (PySem.F.typeCall_bool_1 _) (PySem.F.newCall_bool_1 _) (fun obj => PySem.F.args_object_init_2 obj _) PySem.F.entry_bool_new ?_ ?_
  · intro A R s h
    obtain ⟨hp, g, d, tk, os⟩ := s
    have f1 := PySem.F.conv_sub_bool
    unfold Builtin.«bool.__new__»
    repeat (any_goals (first | assumption | with_reducible refine wpAny_mono h (fun b s' q => ?_) (fun _ _ x => x) | wp_step))
  · refine thn (truthy_own (Q := fun b H' => Q (.bl b) H') sb hs hf F hb hx I ha hsp) fun b s' q => ?_
    obtain ⟨H', I', q⟩ := q
    exact ⟨PySem.typeIs_bool _ _, ⟨.bl b, H', I', rfl, q⟩⟩
/-! ### int op instance: the instance's reflected method -/
theorem int_declines {prog : Program} {w : World} {A : Around} {E' : Value → Shared → Prop} {s : Shared} {nm : String} {g : Int → Int → Sem Fin} {i : Int} {t : Tok} {x C dx : Addr} {Q : Fin → Shared → Prop}
    (hsl : slotArgs nm 1 ⟨[.int i t, .ref x], []⟩ = pure (.int i t, [.ref x])) (hx : s.heap.get? x = some (PySem.W.instObj C dx)) (h : Q (.done (.ret .notImplemented)) s) :
    wpAny (model prog w) A (Builtin.Int.intBinary nm g false ⟨[.int i t, .ref x], []⟩) Q E' s := by
  unfold Builtin.Int.intBinary
  rw [hsl]
  refine wpAny_bind (wpAny_pure ?_)
  refine wpAny_bind (m := Builtin.Int.intOfSelf _) (wpAny_pure ?_)
  refine wpAny_bind (m := asInt? (.ref x)) ?_
  unfold asInt?
  refine wpAny_bind (wpAny_load hx (wpAny_pure ?_))
  refine wpAny_bind (wpAny_rule (wpAny_pure h))

end
end SpX

set_option Elab.async false
set_option linter.all false
set_option maxRecDepth 100000
set_option maxHeartbeats 4000000
namespace SpX
open PySem PySem.Spec PyProof.Rows L2
section
variable {X : Cx} {CX : CXT} {k : Nat} {f C : Addr} {fd : FuncData} {ps : List Str} {sp : Sp} {E : XK} {op : Operator}
/-- int's own method says nothing of an instance -/
def Declines (op : Operator) : Prop := ∀ (prog : Program) (w : World) (A : Around) (E' : Value → Shared → Prop) (s : Shared) (i : Int) (t : Tok) (x C dx : Addr) (Q : Option Value → Shared → Prop),
  s.heap.get? x = some (PySem.W.instObj C dx) → Q none s → wpAny (model prog w) A (tryMethod (.int i t) (PySem.dunder op.info.2) (.ref x)) Q E' s
theorem declines_of {op : Operator} {id nm : String} {g : Int → Int → Sem Fin} {B : Builtin} (slot : Slot "int" (PySem.dunder op.info.2) id) (entry : entryFor table id = some B) (hB : B = Builtin.Int.intBinary nm g false)
    (args : ∀ a b : Value, argsOk id ⟨[a, b], []⟩) (hsl : ∀ (i : Int) (t : Tok) (x : Addr), slotArgs nm 1 ⟨[.int i t, .ref x], []⟩ = pure (.int i t, [.ref x])) : Declines op := by
  intro prog w A E' s i t x C dx Q hx h
  unfold tryMethod
  refine wpAny_bind (wpAny_callSpecial?_slot (typeIs_int s i t) slot ?_)
  refine wpAny_call_entry slot (typeIs_int s i t) entry ?_ (args _ _)
  rw [hB]
  exact int_declines (hsl i t x) hx ⟨_, rfl, wpAny_pure h⟩
theorem gbin_add : ∃ g, Builtin.«int.__add__» = Builtin.Int.intBinary "__add__" g false := ⟨_, rfl⟩
theorem gslot_add (i : Int) (t : Tok) (x : Addr) : slotArgs "__add__" 1 ⟨[.int i t, .ref x], []⟩ = pure (.int i t, [.ref x]) := rfl
theorem decl_add : Declines .Add := by
  obtain ⟨g, hg⟩ := gbin_add
  refine declines_of (op := .Add) (id := "int.__add__") (nm := "__add__") (g := g) (B := Builtin.«int.__add__») ?_ ?_ ?_ ?_ ?_
  · exact slot_int_add
  · exact entry_int_add
  · exact hg
  · exact args_int_add
  · exact gslot_add
theorem gbin_sub : ∃ g, Builtin.«int.__sub__» = Builtin.Int.intBinary "__sub__" g false := ⟨_, rfl⟩
theorem gslot_sub (i : Int) (t : Tok) (x : Addr) : slotArgs "__sub__" 1 ⟨[.int i t, .ref x], []⟩ = pure (.int i t, [.ref x]) := rfl
theorem decl_sub : Declines .Sub := by
  obtain ⟨g, hg⟩ := gbin_sub
  refine declines_of (op := .Sub) (id := "int.__sub__") (nm := "__sub__") (g := g) (B := Builtin.«int.__sub__») ?_ ?_ ?_ ?_ ?_
  · exact slot_int_sub
  · exact entry_int_sub
  · exact hg
  · exact args_int_sub
  · exact gslot_sub
theorem gbin_mul : ∃ g, Builtin.«int.__mul__» = Builtin.Int.intBinary "__mul__" g false := ⟨_, rfl⟩
theorem gslot_mul (i : Int) (t : Tok) (x : Addr) : slotArgs "__mul__" 1 ⟨[.int i t, .ref x], []⟩ = pure (.int i t, [.ref x]) := rfl
theorem decl_mul : Declines .Mult := by
  obtain ⟨g, hg⟩ := gbin_mul
  refine declines_of (op := .Mult) (id := "int.__mul__") (nm := "__mul__") (g := g) (B := Builtin.«int.__mul__») ?_ ?_ ?_ ?_ ?_
  · exact slot_int_mul
  · exact entry_int_mul
  · exact hg
  · exact args_int_mul
  · exact gslot_mul
/-- what the text must say of the reflected method g -/
structure OwnRef (K : PySem.W.Frag) (C : Addr) (op : Operator) (g : Addr) : Prop where
  ex : ∃ f : Addr, PySem.W.findIn K (.ref C) (PySem.dunder op.info.2) = some (some (.ref f))
  hs : PySem.W.findIn K (.ref C) (dunderR op.info.2) = some (some (.ref g))
  hf : PySem.W.isFn K (.ref g) = true
  hc : PySem.W.selfFirst K C = true
  h1 : ∃ fo, PySem.W.findIn K (.type "int") (PySem.dunder op.info.2) = some fo ∧ (fo.isSome && !isSeqSlot fo) = true
  h2 : ∃ ro, PySem.W.findIn K (.type "int") (dunderR op.info.2) = some ro
  hsub : PySem.W.subIn K (.ref C) (.type "int") = some false
theorem binop_refl {prog : Program} {w : World} {A : Around} {E' : Value → Shared → Prop} {s : Shared} {K : PySem.W.Frag} {i : Int} {t : Tok} {x g : Addr} {dx : Addr} {od : Option Obj} {Q : Value → Shared → Prop} (X : K.In s.heap) (O : OwnRef K C op g) (D : Declines op)
    (hx : s.heap.get? x = some (PySem.W.instObj C dx)) (I : PySem.W.InstAt s.heap x (PySem.W.instObj C dx) C od)
    (h : wpAny (model prog w) A (call (.ref g) [.ref x, .int i t]) (PySem.W.CmpBack Q) E' s) : wpAny (model prog w) A (binaryOp op (.int i t) (.ref x)) Q E' s := by
  obtain ⟨cd, rest, hcd, hm⟩ := PySem.W.ksp_first O.hc
  obtain ⟨f, hs⟩ := O.ex
  obtain ⟨fo, h1, hfo⟩ := O.h1
  obtain ⟨ro, h2⟩ := O.h2
  have hsr := O.hs
  have one := PySem.W.ksp_try X I O.hs O.hf h
  have dec := D prog w A E' s i t x C dx
  rcases hi : op.info with ⟨sym, nm'⟩
  rw [hi] at hs h1 h2 hsr dec one
  dsimp only at hs h1 h2 hsr dec one
  obtain ⟨hh, g', d, tt, os⟩ := s
  have L1 : PySem.W.Looks (model prog w) hh (typeOf (.int i t)) (.type "int") := PySem.W.Looks.of_pure rfl
  have L2 : PySem.W.Looks (model prog w) hh (typeOf (.ref x)) (.ref C) := I.type
  have L3 : PySem.W.Looks (model prog w) hh (fillsNumberSlot (.type "int") nm') ((fo.isSome && !isSeqSlot fo) || (ro.isSome && !isSeqSlot ro)) := PySem.W.ksp_fillsT X h1 h2
  rw [hfo, Bool.true_or] at L3
  have L4 : PySem.W.Looks (model prog w) hh (fillsNumberSlot (.ref C) nm') true := PySem.W.fills_K X hcd hm hs
  have L5 : PySem.W.Looks (model prog w) hh (isSubtype (.ref C) (.type "int")) false := PySem.W.looks_subIn X O.hsub
  have L7 : PySem.W.Looks (model prog w) hh (numberSlotInPython (.type "int") nm') false := PySem.W.Looks.of_pure rfl
  have hne : (Value.type "int" == Value.ref C) = false := Bool.eq_false_iff.mpr fun q => by cases beq_iff_eq.mp q
  simp only [binaryOp, hi]
  refine wpAny_holding (wpAny_bind ?_)
  unfold binaryOp1
  refine wpAny_bind (L1.at (wpAny_bind (L2.at (wpAny_bind (L3.at ?_)))))
  simp only [hne, Bool.false_eq_true, if_false]
  refine wpAny_bind (L4.at ?_)
  simp only [Bool.and_self, if_true]
  refine wpAny_bind (L5.at ?_)
  simp only [Bool.false_eq_true, if_false]
  refine wpAny_bind (wpAny_pure ?_)
  simp only [Bool.not_false, Bool.and_self, if_true, Bool.false_eq_true, if_false]
  refine wpAny_bind (dec _ hx ?_)
  dsimp only
  refine wpAny_bind (wpAny_mono one (fun r s' hr' => ?_) fun _ _ e => e)
  obtain ⟨v, rfl, hq⟩ := hr'
  exact wpAny_bind (wpAny_rule (wpAny_pure (wpAny_pure hq)))
/-- int op instance -/
def rOwnR (C : Addr) (sp : Sp) (E : XK) : R2 := fun x y H Q => ∃ i a dx fs, x = .int i ∧ y = .ref a ∧ H a = some (.ins C dx fs) ∧ sp [.ref a, .int i] H Q E
theorem op_ownR (O : OwnRef X.K C op f) (Dc : Declines op) (F : FnOk X.prog X.w X.K X.mg X.base CX k f fd ps sp) (hr : Room k X.A) (hb : Binds X.K fd ps []) (hx : Passes CX X E) : OpR X (binaryOp op) (rOwnR C sp E) := by
  intro pins s σ H x y v u Q I rx ry h
  obtain ⟨i, a, dx, fs, rfl, rfl, ha, hsp⟩ := h
  obtain ⟨t, rfl⟩ := rx
  cases ry
  obtain ⟨mA, J, _⟩ := ins_get I.hok ha
  have hobj := J.obj
  obtain ⟨od, J, _⟩ := J.look
  refine binop_refl I.kIn O Dc hobj J ?_
  refine thn (run_fn (us := [.ref a, .int i t]) (vs := [.ref a, .int i]) (dvs := []) F hr hb .nil hx I (.cons rfl (.cons ⟨t, rfl⟩ .nil)) hsp) fun u s' q => ep_back q

/-! ### == by an own __eq__, whatever it answers -/
/-- what the text must say of the class's __eq__ -/
structure OwnEqF (K : PySem.W.Frag) (C f : Addr) : Prop where
  hs : PySem.W.findIn K (.ref C) "__eq__" = some (some (.ref f))
  hf : PySem.W.isFn K (.ref f) = true
  hi : PySem.W.subIn K (.type "int") (.ref C) = some false
  hci : PySem.W.subIn K (.ref C) (.type "int") = some false
theorem cmp_own2 (O : OwnEqF X.K C f) (F : FnOk X.prog X.w X.K X.mg X.base CX k f fd ps sp) (hr : Room k X.A) (hb : Binds X.K fd ps []) (hx : Passes CX X E) : OpR X (compareOp .Eq) (rOwn2 C sp E) := by
  intro pins s σ H x y v u Q I rx ry h
  obtain ⟨a, b, dx, dy, fs, gs, rfl, rfl, ha, hb', hsp⟩ := h
  cases rx
  cases ry
  obtain ⟨mA, J, _⟩ := ins_get I.hok ha
  obtain ⟨mB, J', _⟩ := ins_get I.hok hb'
  obtain ⟨od, J, _⟩ := J.look
  obtain ⟨od', J', _⟩ := J'.look
  obtain ⟨m, hF⟩ := I.fr
  show wpAny (model X.prog X.w) X.A (richCompare .Eq (.ref a) (.ref b)) (EP X pins σ Q) X.xe s
  refine PySem.W.cmp_K (op := .Eq) (tb := .ref C) hr.units0 hF I.ok.mod.kin J J'.type (by simp [PySem.W.notFirst]) O.hs O.hf ?_
  refine thn (run_fn (us := [.ref a, .ref b]) (vs := [.ref a, .ref b]) (dvs := []) F hr hb .nil hx I (.cons rfl (.cons rfl .nil)) hsp) fun u s' q => ep_back q
theorem cmp_ownI (O : OwnEqF X.K C f) (F : FnOk X.prog X.w X.K X.mg X.base CX k f fd ps sp) (hr : Room k X.A) (hb : Binds X.K fd ps []) (hx : Passes CX X E) : OpR X (compareOp .Eq) (rOwnI C sp E) := by
  intro pins s σ H x y v u Q I rx ry h
  obtain ⟨a, i, dx, fs, rfl, rfl, ha, hsp⟩ := h
  cases rx
  obtain ⟨t, rfl⟩ := ry
  obtain ⟨mA, J, _⟩ := ins_get I.hok ha
  obtain ⟨od, J, _⟩ := J.look
  obtain ⟨m, hF⟩ := I.fr
  show wpAny (model X.prog X.w) X.A (richCompare .Eq (.ref a) (.int i t)) (EP X pins σ Q) X.xe s
  refine PySem.W.cmp_K (op := .Eq) (tb := .type "int") hr.units0 hF I.ok.mod.kin J (PySem.W.Looks.of_pure rfl) (by unfold PySem.W.notFirst; rw [O.hi]; simp) O.hs O.hf ?_
  refine thn (run_fn (us := [.ref a, .int i t]) (vs := [.ref a, .int i]) (dvs := []) F hr hb .nil hx I (.cons rfl (.cons ⟨t, rfl⟩ .nil)) hsp) fun u s' q => ep_back q
/-- int == instance -/
theorem gcmp_eq (i : Int) (t : Tok) (x : Addr) : slotArgs "__eq__" 1 ⟨[.int i t, .ref x], []⟩ = pure (.int i t, [.ref x]) := rfl
theorem gbin_eq : ∃ g, Builtin.«int.__eq__» = Builtin.Int.intBinary "__eq__" g false := ⟨_, rfl⟩
theorem int_declinesC {prog : Program} {w : World} {A : Around} {E' : Value → Shared → Prop} {s : Shared} {i : Int} {t : Tok} {x C dx : Addr} {Q : Fin → Shared → Prop}
    (hsl : slotArgs "__eq__" 1 ⟨[.int i t, .ref x], []⟩ = pure (.int i t, [.ref x])) (hx : s.heap.get? x = some (PySem.W.instObj C dx)) (h : Q (.done (.ret .notImplemented)) s) :
    wpAny (model prog w) A (Builtin.«int.__eq__» ⟨[.int i t, .ref x], []⟩) Q E' s := by
  obtain ⟨g, hg⟩ := gbin_eq
  rw [hg]
  exact int_declines hsl hx h
theorem cmp_ownR (O : OwnEqF X.K C f) (F : FnOk X.prog X.w X.K X.mg X.base CX k f fd ps sp) (hr : Room k X.A) (hb : Binds X.K fd ps []) (hx : Passes CX X E) : OpR X (compareOp .Eq) (rOwnR C sp E) := by
  intro pins s σ H x y v u Q I rx ry h
  obtain ⟨i, a, dx, fs, rfl, rfl, ha, hsp⟩ := h
  obtain ⟨t, rfl⟩ := rx
  cases ry
  obtain ⟨mA, J, _⟩ := ins_get I.hok ha
  have hobj := J.obj
  obtain ⟨od, J, _⟩ := J.look
  have kin := I.kIn
  have one : wpAny (model X.prog X.w) X.A (tryCompare (.ref a) "__eq__" (.int i t)) (fun r s' => ∃ v, r = some v ∧ EP X pins σ Q v s') X.xe s := by
    unfold tryCompare
    refine wpAny_bind (PySem.W.ifBound_K kin J O.hs O.hf (wpAny_mono (run_fn (us := [.ref a, .int i t]) (vs := [.ref a, .int i]) (dvs := []) F hr hb .nil hx I (.cons rfl (.cons ⟨t, rfl⟩ .nil)) hsp) (fun v s' hv => ?_) fun _ _ e => e))
    have hv' := ep_back hv
    cases v <;> first | exact hv'.elim | exact wpAny_pure ⟨_, rfl, hv⟩
  show wpAny (model X.prog X.w) X.A (richCompare .Eq (.int i t) (.ref a)) (EP X pins σ Q) X.xe s
  unfold richCompare
  refine wpAny_holding (wpAny_bind (wpAny_cRoomFor hr.units0 ?_))
  rw [show oneThing? CmpOp.Eq (Value.int i t) (Value.ref a) = none from rfl]
  dsimp only [cmpInfo]
  have L1 : PySem.W.Looks (model X.prog X.w) s.heap (typeOf (.int i t)) (.type "int") := PySem.W.Looks.of_pure rfl
  refine wpAny_bind (L1.here (wpAny_bind (J.type.here ?_)))
  rw [if_pos (show (Value.type "int" != Value.ref C) = true from rfl)]
  refine wpAny_bind ((PySem.W.looks_subIn kin O.hci).here ?_)
  simp only [Bool.false_eq_true, if_false]
  refine wpAny_bind (m := tryCompare (.int i t) _ (.ref a)) ?_
  unfold tryCompare
  refine wpAny_bind (m := callSpecialIfBound? (.int i t) _ _) (wpAny_callSpecialIfBound?_slot (typeIs_int s i t) slot_int_eq ?_)
  refine wpAny_call_entry slot_int_eq (typeIs_int s i t) entry_int_eq ?_ (args_int_eq _ _)
  refine int_declinesC (gcmp_eq i t a) hobj ⟨_, rfl, ?_⟩
  refine wpAny_pure ?_
  rw [if_pos (show (!false) = true from rfl)]
  refine wpAny_bind (wpAny_mono one (fun r s' hr' => ?_) fun _ _ e => e)
  obtain ⟨v, rfl, hq⟩ := hr'
  exact wpAny_pure hq
end
end SpX

set_option Elab.async false
set_option linter.all false
set_option maxRecDepth 100000
set_option maxHeartbeats 2000000
/-! Readings of built-ins by short names; what stays of a heap. -/
namespace SpX
open PySem PySem.Spec L2
def rLen1 (K : PySem.W.Frag) : List V → Hp → VK → Prop := fun xs H Q => ∃ p ys, xs = [.ref p] ∧ (SqL K H p ys ∨ SqT K H p ys) ∧ Q (.int ys.length) H
def rList1 (K : PySem.W.Frag) : List V → Hp → VK → Prop := fun xs H Q => ∃ p ys, xs = [.ref p] ∧ (SqL K H p ys ∨ SqT K H p ys) ∧ ∀ l, H l = none → Q (.ref l) (upd H l (.lst ys))
def rInt1 : List V → Hp → VK → Prop := fun xs H Q => (∃ i, xs = [.int i] ∧ Q (.int i) H) ∨ ∃ k, xs = [.bl k] ∧ Q (.int (if k then 1 else 0)) H
def rBool1 : List V → Hp → VK → Prop := fun xs H Q => (∃ i, xs = [.int i] ∧ Q (.bl (i != 0)) H) ∨ ∃ k, xs = [.bl k] ∧ Q (.bl k) H
def rAbs1 : List V → Hp → VK → Prop := fun xs H Q => ∃ i, xs = [.int i] ∧ Q (.int (if i < 0 then -i else i)) H
def rMax2 : List V → Hp → VK → Prop := fun xs H Q => ∃ i j, xs = [.int i, .int j] ∧ Q (.int (if j > i then j else i)) H
def rMin2 : List V → Hp → VK → Prop := fun xs H Q => ∃ i j, xs = [.int i, .int j] ∧ Q (.int (if j < i then j else i)) H
section
variable {D : Ends} {σ : L2.St} {H : Hp} {Q : VK} {a b : Int}
theorem x_int1 : rInt1 [.int a] H Q = Q (.int a) H := by
  unfold rInt1
  simp
theorem x_abs1 : rAbs1 [.int a] H Q = Q (.int (if a < 0 then -a else a)) H := by
  unfold rAbs1
  simp
theorem x_max2 : rMax2 [.int a, .int b] H Q = Q (.int (if b > a then b else a)) H := by
  exact propext ⟨fun ⟨_, _, e, q⟩ => by cases e; exact q, fun q => ⟨_, _, rfl, q⟩⟩
theorem x_gcd : rGcd [.int a, .int b] H Q = Q (.int ((Nat.gcd a.natAbs b.natAbs : Nat) : Int)) H := by
  exact propext ⟨fun ⟨_, _, e, q⟩ => by cases e; exact q, fun q => ⟨_, _, rfl, q⟩⟩
end
section
variable {X : Cx}
theorem op_mulI : OpR X (binaryOp .Mult) (rI IntMulOk fun i j => .int (i * j)) := opI fun _ _ _ _ _ _ _ hc q => PyProof.Rows.mul_int q hc
end
theorem mul_lit {i j : Int} (h : -(2 ^ 64) < j ∧ j < 2 ^ 64) : IntMulOk i j := CMul.ok (.inr h)
theorem mul_lit' {i j : Int} (h : -(2 ^ 64) < i ∧ i < 2 ^ 64) : IntMulOk i j := CMul.ok (.inl h)
theorem mul_wide {i j : Int} {a b : Nat} (ha : i.natAbs < 2 ^ a) (hb : j.natAbs < 2 ^ b) (h0 : 0 < a) (h1 : 0 < b) (h : a + b ≤ 1000000) : IntMulOk i j := (wide_mul ha hb h0 h1 h).ok
/-! ### tracked lists and tuples alone: the readings are equations -/
def rIx1 : R2 := fun x y H Q => ∃ p xs i v, x = .ref p ∧ y = .int i ∧ (H p = some (.lst xs) ∨ H p = some (.tup xs)) ∧ atI xs i = some v ∧ Q v H
def rLenA : List V → Hp → VK → Prop := fun vs H Q => ∃ p xs, vs = [.ref p] ∧ (H p = some (.lst xs) ∨ H p = some (.tup xs)) ∧ Q (.int xs.length) H
def rListA : List V → Hp → VK → Prop := fun vs H Q => ∃ p xs, vs = [.ref p] ∧ (H p = some (.lst xs) ∨ H p = some (.tup xs)) ∧ ∀ l, H l = none → Q (.ref l) (upd H l (.lst xs))
def rSlA : V → Option Int → Option Int → Hp → VK → Prop := fun x lo hi H Q => ∃ p xs, x = .ref p ∧ H p = some (.lst xs) ∧ ∀ q, H q = none → Q (.ref q) (upd H q (.lst (cutV xs lo hi)))
section
variable {X : Cx}
theorem ix_1 : IxR X rIx1 := by
  intro value slice pins s σ H x y v u Q I rx ry h hs
  obtain ⟨p, xs, i, w, rfl, rfl, h1 | h1, h2, q⟩ := h
  · exact ix_list value slice pins s σ H _ _ v u Q I rx ry ⟨p, xs, i, w, rfl, rfl, .inl (.inl h1), h2, q⟩ hs
  · exact ix_tup value slice pins s σ H _ _ v u Q I rx ry ⟨p, xs, i, w, rfl, rfl, .inl (.inl h1), h2, q⟩ hs
theorem call_lenA : CallR X (.builtin "len") rLenA := by
  intro pins s σ H xs us Q I r h
  obtain ⟨p, ys, rfl, h1 | h1, q⟩ := h
  · exact call_len_seq pins s σ H _ us Q I r ⟨p, ys, rfl, .inl (.inl (.inl h1)), q⟩
  · exact call_len_seq pins s σ H _ us Q I r ⟨p, ys, rfl, .inr (.inl (.inl h1)), q⟩
theorem call_listA : CallR X (.type "list") rListA := by
  intro pins s σ H xs us Q I r h
  obtain ⟨p, ys, rfl, h1 | h1, q⟩ := h
  · exact call_list_of pins s σ H _ us Q I r ⟨p, ys, rfl, .inl (.inl (.inl h1)), q⟩
  · exact call_list_of pins s σ H _ us Q I r ⟨p, ys, rfl, .inr (.inl (.inl h1)), q⟩
theorem sl_A : SlR X rSlA := by
  intro pins s σ H x v vl vu lo hi sl Q I rx rs rl rh h
  obtain ⟨p, ys, rfl, h1, q⟩ := h
  exact sl_list pins s σ H _ v vl vu lo hi sl Q I rx rs rl rh ⟨p, ys, rfl, .inl (.inl h1), q⟩
end
section
variable {σ : L2.St} {H : Hp} {Q : VK} {p : Addr} {xs ys : List V} {i : Int} {v : V}
theorem x_ix (h : H p = some (.lst xs)) (ha : atI xs i = some v) : rIx1 (.ref p) (.int i) H Q = Q v H := propext (Iff.intro
  (fun ⟨_, _, _, _, e1, e2, h1, h2, q⟩ => by
    cases e1; cases e2
    rw [h] at h1
    rcases h1 with h1 | h1
    · cases h1
      rw [ha] at h2
      cases h2
      exact q
    · cases h1)
  (fun q => ⟨_, _, _, _, rfl, rfl, .inl h, ha, q⟩))

theorem x_ixT (h : H p = some (.tup xs)) (ha : atI xs i = some v) : rIx1 (.ref p) (.int i) H Q = Q v H := propext (Iff.intro
  (fun ⟨_, _, _, _, e1, e2, h1, h2, q⟩ => by
    cases e1; cases e2
    rw [h] at h1
    rcases h1 with h1 | h1
    · cases h1
    · cases h1
      rw [ha] at h2
      cases h2
      exact q)
  (fun q => ⟨_, _, _, _, rfl, rfl, .inr h, ha, q⟩))

theorem x_lenA (h : H p = some (.lst xs)) : rLenA [.ref p] H Q = Q (.int xs.length) H := propext (Iff.intro
  (fun ⟨_, _, e1, h1, q⟩ => by
    cases e1
    rw [h] at h1
    rcases h1 with h1 | h1
    · cases h1
      exact q
    · cases h1)
  (fun q => ⟨_, _, rfl, .inl h, q⟩))

theorem x_listA (h : H p = some (.lst xs)) : rListA [.ref p] H Q = ∀ l, H l = none → Q (.ref l) (upd H l (.lst xs)) := propext (Iff.intro
  (fun ⟨_, _, e1, h1, q⟩ => by
    cases e1
    rw [h] at h1
    rcases h1 with h1 | h1
    · cases h1
      exact q
    · cases h1)
  (fun q => ⟨_, _, rfl, .inl h, q⟩))

theorem x_slA {lo hi : Option Int} (h : H p = some (.lst xs)) : rSlA (.ref p) lo hi H Q = ∀ q, H q = none → Q (.ref q) (upd H q (.lst (cutV xs lo hi))) := propext (Iff.intro
  (fun ⟨_, _, e1, h1, q⟩ => by
    cases e1
    rw [h] at h1
    cases h1
    exact q)
  (fun q => ⟨_, _, rfl, h, q⟩))

theorem x_setL {k : Int} {j : Nat} {QQ : Hp → Prop} (h : H p = some (.lst xs)) (hj : ixN xs.length k = some j) : rSetL (.ref p) (.int k) v H QQ = QQ (upd H p (.lst (xs.set j v))) := propext (Iff.intro
  (fun ⟨_, _, _, _, e1, e2, h1, h2, q⟩ => by
    cases e1; cases e2
    rw [h] at h1
    cases h1
    rw [hj] at h2
    cases h2
    exact q)
  (fun q => ⟨_, _, _, _, rfl, rfl, h, hj, q⟩))

theorem x_cat {q : Addr} (h : H p = some (.lst xs)) (h' : H q = some (.lst ys)) (hz : xs.length + ys.length ≤ sizeLine) : rCat (.ref p) (.ref q) H Q = ∀ l, H l = none → Q (.ref l) (upd H l (.lst (xs ++ ys))) := propext (Iff.intro
  (fun ⟨_, _, _, _, e1, e2, h1, h2, _, q⟩ => by
    cases e1; cases e2
    rw [h] at h1
    rw [h'] at h2
    cases h1; cases h2
    exact q)
  (fun q => ⟨_, _, _, _, rfl, rfl, h, h', hz, q⟩))

theorem x_tbm {T : String} {K : PySem.W.Frag} {r : V → List V → Hp → VK → Prop} {to : TE} {t : TA} : tBM K T r to t σ H Q = to σ H (fun x H1 => tyV K T x H1 ∧ t σ H1 fun xs H2 => r x xs H2 Q) := rfl
theorem x_append (h : H p = some (.lst xs)) (hz : xs.length < sizeLine) : rAppend (.ref p) [v] H Q = Q .non (upd H p (.lst (xs ++ [v]))) := propext (Iff.intro
  (fun ⟨_, _, _, e1, e2, h1, _, q⟩ => by
    cases e1; cases e2
    rw [h] at h1
    cases h1
    exact q)
  (fun q => ⟨_, _, _, rfl, rfl, h, hz, q⟩))

end
theorem ty_lst {K : PySem.W.Frag} {H : Hp} {p : Addr} {xs : List V} (h : H p = some (.lst xs)) : tyV K "list" (.ref p) H := .inl ⟨rfl, _, .inl (.inl h)⟩
/-- all that was tracked, but for what stands at p, is as it was -/
def Keep (p : Addr) (H H' : Hp) : Prop := ∀ b o, b ≠ p → H b = some o → H' b = some o
theorem Keep.refl (p : Addr) (H : Hp) : Keep p H H := fun _ _ _ h => h
theorem Keep.trans {p : Addr} {H H1 H2 : Hp} (a : Keep p H H1) (b : Keep p H1 H2) : Keep p H H2 := fun c o n h => b c o n (a c o n h)
theorem Keep.of {p : Addr} {H H1 : Hp} (a : Same H H1) : Keep p H H1 := fun c o _ h => a c o h
theorem Same.new {H : Hp} {p : Addr} {o : HO} (h : H p = none) : Same H (upd H p o) := fun a u e => by
  rw [upd_ne (ne_of_none e h)]
  exact e
theorem Same.new' {H H1 : Hp} {p : Addr} {o : HO} (s : Same H H1) (h : H1 p = none) : Same H (upd H1 p o) := s.trans (Same.new h)
theorem Keep.new {q : Addr} {H H1 : Hp} {p : Addr} {o : HO} (s : Keep q H H1) (h : H1 p = none) : Keep q H (upd H1 p o) := s.trans (Keep.of (Same.new h))
theorem Keep.at {q : Addr} {H H1 : Hp} {o : HO} (s : Keep q H H1) : Keep q H (upd H1 q o) := fun c u n h => by
  rw [upd_ne n]
  exact s c u n h
/-- two tracked things of unlike kinds -/
theorem lst_tup {H : Hp} {a b : Addr} {xs ys : List V} (h : H a = some (.lst xs)) (h' : H b = some (.tup ys)) : b ≠ a := fun e => by
  subst e
  rw [h] at h'
  cases h'
theorem atI_0 {v : V} {xs : List V} : atI (v :: xs) 0 = some v := by
  show atI (v :: xs) ((0 : Nat) : Int) = some v
  exact atI_nat rfl
theorem sl5 {n : Nat} (h : n ≤ 1000) : n ≤ sizeLine := Nat.le_trans h (by decide)
end SpX

set_option Elab.async false
set_option linter.all false
set_option maxRecDepth 100000
set_option maxHeartbeats 2000000
/-! Ratios: how one stands on the heap, what a def promises of it. -/
namespace SpX
open PySem PySem.Spec L2
abbrev RF (t b : Int) : List (Str × V) := [("top", .int t), ("bottom", .int b)]
/-- a ratio t / b stands at p -/
def RatAt (C : Addr) (H : Hp) (p : Addr) (t b : Int) : Prop := ∃ dx, H p = some (.ins C dx (RF t b))
theorem RatAt.same {C : Addr} {H H' : Hp} {p : Addr} {t b : Int} (h : RatAt C H p t b) (s : Same H H') : RatAt C H' p t b := by
  obtain ⟨dx, e⟩ := h
  exact ⟨dx, s _ _ e⟩
/-- isinstance of an int or of a ratio -/
inductive IsA (C : Addr) (H : Hp) : List V → Bool → Prop where
  | ii (i : Int) : IsA C H [.int i, .ty "int"] true
  | ic (i : Int) : IsA C H [.int i, .ref C] false
  | ri {p dx : Addr} {fs : List (Str × V)} (h : H p = some (.ins C dx fs)) : IsA C H [.ref p, .ty "int"] false
  | rc {p dx : Addr} {fs : List (Str × V)} (h : H p = some (.ins C dx fs)) : IsA C H [.ref p, .ref C] true
def rIsA (C : Addr) : List V → Hp → VK → Prop := fun xs H Q => ∃ b, IsA C H xs b ∧ Q (.bl b) H
structure IsaOk (K : PySem.W.Frag) (C : Addr) : Prop where
  cl : Cls K C
  ha : PySem.W.findIn K (.ref C) "__class__" = some (some (.builtin "object.__class__"))
  hn : PySem.W.specialIn K (.builtin "object.__class__") "__get__" = some (some (.builtin "getset_descriptor.__get__"))
  ht : PySem.W.takesIn K (.builtin "object.__class__") = some true
  hm : PySem.W.mroIn K C (.type "object") = some true
  k0 : PySem.W.kitOne K (.ref C) (.type "int") = some false
  k1 : PySem.W.kitOne K (.type "int") (.ref C) = some false
theorem kit_self {K : PySem.W.Frag} {C : Addr} : PySem.W.kitOne K (.ref C) (.ref C) = some true := by
  unfold PySem.W.kitOne
  rw [if_pos (beq_self_eq_true _)]
theorem call_isA {X : Cx} {C : Addr} (T : IsaOk X.K C) : CallR X (.builtin "isinstance") (rIsA C) := by
  intro pins s σ H xs us Q I r h
  obtain ⟨b, h, q⟩ := h
  cases h with
  | ii i => exact call_isi pins s σ H _ us Q I r ⟨_, _, _, _, _, rfl, .ty _, .base (.int _), kit_ty (by decide +kernel), q⟩
  | ic i => exact call_isi pins s σ H _ us Q I r ⟨_, _, _, _, _, rfl, .own _, .base (.int _), T.k1, q⟩
  | ri e => exact call_isi pins s σ H _ us Q I r ⟨_, _, _, _, _, rfl, .ty _, .base (.ins e T.cl T.ha T.hn T.ht T.hm), T.k0, q⟩
  | rc e => exact call_isi pins s σ H _ us Q I r ⟨_, _, _, _, _, rfl, .own _, .base (.ins e T.cl T.ha T.hn T.ht T.hm), kit_self, q⟩
/-- e.f of an instance of C -/
def rFld (C : Addr) (f : Str) : V → Hp → VK → Prop := fun x H Q => ∃ a dx fs v, x = .ref a ∧ H a = some (.ins C dx fs) ∧ fs.lookup f = some v ∧ Q v H
theorem pe_fldA {X : Cx} {C : Addr} {e : Expr} {f : Str} {pos : Pos} {ta : TE} (he : PE X e ta) (c : Cls X.K C) (n : NoAttr X.K C f) (hb : attributeBase e f X.env (eval e X.env) = eval e X.env) : PE X (.Attribute e f pos) (tUn (rFld C f) ta) := by
  refine ⟨fun pins s σ H Q I h => ?_⟩
  refine attr_of hb (thn (he.run pins s σ H _ I h) fun u s1 hh => ?_)
  obtain ⟨x, H1, I1, rx, a, dx, fs, v, ex, ea, l, q⟩ := hh
  subst ex
  obtain rfl : u = Value.ref a := rx
  exact getattr_ok I1 ea c n l fun u' s2 I2 ru => ⟨v, H1, I2, ru, q⟩
section
variable {D : Ends} {σ : L2.St} {H : Hp} {Q : VK} {C p q dx dy : Addr} {t b u c i : Int} {sp : Sp} {E : XK} {ta tb : TE} {f : Str}
theorem x_top (h : H p = some (.ins C dx (RF t b))) : rFld C "top" (.ref p) H Q = Q (.int t) H := propext (Iff.intro
  (fun ⟨_, _, _, _, e1, h1, h2, q⟩ => by
    cases e1
    rw [h] at h1
    cases h1
    cases h2
    exact q)
  (fun q => ⟨_, _, _, _, rfl, h, rfl, q⟩))
theorem bottom_ne : (("bottom" : Str) == "top") = false := by decide +kernel
theorem look_bottom : List.lookup ("bottom" : Str) (RF t b) = some (.int b) := by
  simp only [RF, List.lookup, bottom_ne, beq_self_eq_true]
theorem x_bot (h : H p = some (.ins C dx (RF t b))) : rFld C "bottom" (.ref p) H Q = Q (.int b) H := propext (Iff.intro
  (fun ⟨_, _, _, _, e1, h1, h2, q⟩ => by
    cases e1
    rw [h] at h1
    cases h1
    rw [look_bottom] at h2
    cases h2
    exact q)
  (fun q => ⟨_, _, _, _, rfl, h, look_bottom, q⟩))
theorem x_isII : rIsA C [.int i, .ty "int"] H Q = Q (.bl true) H := propext (Iff.intro (fun ⟨_, h, q⟩ => by cases h; exact q) fun q => ⟨_, .ii _, q⟩)
theorem x_isIC : rIsA C [.int i, .ref C] H Q = Q (.bl false) H := propext (Iff.intro (fun ⟨_, h, q⟩ => by cases h; exact q) fun q => ⟨_, .ic _, q⟩)
theorem x_isRI {fs : List (Str × V)} (h : H p = some (.ins C dx fs)) : rIsA C [.ref p, .ty "int"] H Q = Q (.bl false) H := propext (Iff.intro (fun ⟨_, h, q⟩ => by cases h; exact q) fun q => ⟨_, .ri h, q⟩)
theorem x_isRC {fs : List (Str × V)} (h : H p = some (.ins C dx fs)) : rIsA C [.ref p, .ref C] H Q = Q (.bl true) H := propext (Iff.intro (fun ⟨_, h, q⟩ => by cases h; exact q) fun q => ⟨_, .rc h, q⟩)
theorem x_make {dvs : List V} {t : TA} : tMake C sp dvs E t σ H Q = t σ H (fun vs H1 => ∀ x dx, H1 x = none → H1 dx = none → dx ≠ x →
  sp (.ref x :: (vs ++ dvs)) (upd (upd H1 dx (.own x)) x (.ins C dx [])) (fun v H2 => v = .non ∧ Q (.ref x) H2) E) := rfl
theorem x_own2 {fs gs : List (Str × V)} (h : H p = some (.ins C dx fs)) (h' : H q = some (.ins C dy gs)) : rOwn2 C sp E (.ref p) (.ref q) H Q = sp [.ref p, .ref q] H Q E := propext (Iff.intro
  (fun ⟨_, _, _, _, _, _, e1, e2, _, _, q⟩ => by cases e1; cases e2; exact q) (fun q => ⟨_, _, _, _, _, _, rfl, rfl, h, h', q⟩))
theorem x_ownI {fs : List (Str × V)} (h : H p = some (.ins C dx fs)) : rOwnI C sp E (.ref p) (.int i) H Q = sp [.ref p, .int i] H Q E := propext (Iff.intro
  (fun ⟨_, _, _, _, e1, e2, _, q⟩ => by cases e1; cases e2; exact q) (fun q => ⟨_, _, _, _, rfl, rfl, h, q⟩))
theorem x_ownR {fs : List (Str × V)} (h : H p = some (.ins C dx fs)) : rOwnR C sp E (.int i) (.ref p) H Q = sp [.ref p, .int i] H Q E := propext (Iff.intro
  (fun ⟨_, _, _, _, e1, e2, _, q⟩ => by cases e1; cases e2; exact q) (fun q => ⟨_, _, _, _, rfl, rfl, h, q⟩))
theorem x_ownU {fs : List (Str × V)} (h : H p = some (.ins C dx fs)) : rOwnU C sp E (.ref p) H Q = sp [.ref p] H Q E := propext (Iff.intro
  (fun ⟨_, _, _, e1, _, q⟩ => by cases e1; exact q) (fun q => ⟨_, _, _, rfl, h, q⟩))
theorem x_ownAbs {fs : List (Str × V)} (h : H p = some (.ins C dx fs)) : rOwnAbs C sp E [.ref p] H Q = sp [.ref p] H Q E := propext (Iff.intro
  (fun ⟨_, _, _, e1, _, q⟩ => by cases e1; exact q) (fun q => ⟨_, _, _, rfl, h, q⟩))
theorem x_ownBool {fs : List (Str × V)} (h : H p = some (.ins C dx fs)) : rOwnBool C sp E [.ref p] H Q = sp [.ref p] H (fun v H' => ∃ b, v = .bl b ∧ Q (.bl b) H') E := propext (Iff.intro
  (fun ⟨_, _, _, e1, _, q⟩ => by cases e1; exact q) (fun q => ⟨_, _, _, rfl, h, q⟩))
theorem x_meth {m : Str} {dvs : List V} {t : TA} : tMeth C m sp dvs E ta t σ H Q = ta σ H (fun x H1 => ∃ a dx fs, x = .ref a ∧ H1 a = some (.ins C dx fs) ∧ fs.lookup m = none ∧ t σ H1 fun vs H2 => sp (x :: (vs ++ dvs)) H2 Q E) := rfl
theorem x_bool1 : rBool1 [.int i] H Q = Q (.bl (i != 0)) H := by
  unfold rBool1
  simp
end
/-! ### numbers in their lowest terms -/
/-- t / b is x / y in lowest terms -/
structure Norm (t b x y : Int) : Prop where
  pos : 0 < b
  eq : t * y = x * b
  cop : Nat.gcd t.natAbs b.natAbs = 1
theorem Norm.cross {t b x y x' y' : Int} (h : Norm t b x y) (hy : y ≠ 0) (e : x * y' = x' * y) : Norm t b x' y' := by
  refine ⟨h.pos, ?_, h.cop⟩
  have h1 := h.eq
  refine Int.eq_of_mul_eq_mul_right hy ?_
  calc t * y' * y = (t * y) * y' := by rw [Int.mul_assoc, Int.mul_comm y' y, Int.mul_assoc]
    _ = (x * b) * y' := by rw [h1]
    _ = (x * y') * b := by rw [Int.mul_assoc, Int.mul_comm b y', Int.mul_assoc]
    _ = (x' * y) * b := by rw [e]
    _ = x' * b * y := by rw [Int.mul_assoc, Int.mul_comm y b, Int.mul_assoc]
theorem Norm.le {t b x y : Int} (h : Norm t b x y) (hy : y ≠ 0) : t.natAbs ≤ x.natAbs ∧ b.natAbs ≤ y.natAbs := by
  have e : t.natAbs * y.natAbs = x.natAbs * b.natAbs := by
    rw [← Int.natAbs_mul, ← Int.natAbs_mul, h.eq]
  have c : Nat.Coprime t.natAbs b.natAbs := h.cop
  have hy' : 0 < y.natAbs := by omega
  constructor
  · have d : t.natAbs ∣ x.natAbs * b.natAbs := ⟨_, e.symm⟩
    have d' := Nat.Coprime.dvd_of_dvd_mul_right c d
    by_cases hx : x.natAbs = 0
    · rw [hx, Nat.zero_mul] at e
      have := Nat.mul_eq_zero.mp e
      omega
    · exact Nat.le_of_dvd (by omega) d'
  · have d : b.natAbs ∣ t.natAbs * y.natAbs := ⟨_, by rw [e, Nat.mul_comm]⟩
    exact Nat.le_of_dvd hy' (Nat.Coprime.dvd_of_dvd_mul_left c.symm d)
/-- what the constructor stores is in lowest terms: g the common divisor with the sign of y -/
theorem norm_mk {x y g : Int} (hy : y ≠ 0) (hg : g = (if y < 0 then -((Nat.gcd x.natAbs y.natAbs : Nat) : Int) else ((Nat.gcd x.natAbs y.natAbs : Nat) : Int))) : g ≠ 0 ∧ g.natAbs = Nat.gcd x.natAbs y.natAbs ∧ Norm (x.fdiv g) (y.fdiv g) x y := by
  have hG : 0 < Nat.gcd x.natAbs y.natAbs := Nat.gcd_pos_of_pos_right _ (by omega)
  have dx : ((Nat.gcd x.natAbs y.natAbs : Nat) : Int) ∣ x := Int.ofNat_dvd_left.mpr (Nat.gcd_dvd_left _ _)
  have dy : ((Nat.gcd x.natAbs y.natAbs : Nat) : Int) ∣ y := Int.ofNat_dvd_left.mpr (Nat.gcd_dvd_right _ _)
  generalize hn : Nat.gcd x.natAbs y.natAbs = n at hg hG dx dy
  have gn : g ≠ 0 := by subst hg; split <;> omega
  have ga : g.natAbs = n := by subst hg; split <;> omega
  have gx : g ∣ x := by
    subst hg
    split
    · exact Int.neg_dvd.mpr dx
    · exact dx
  have gy : g ∣ y := by
    subst hg
    split
    · exact Int.neg_dvd.mpr dy
    · exact dy
  obtain ⟨a, rfl⟩ := gx
  obtain ⟨c, rfl⟩ := gy
  refine ⟨gn, ga, ?_⟩
  rw [Int.mul_fdiv_cancel_left _ gn, Int.mul_fdiv_cancel_left _ gn]
  refine ⟨?_, ?_, ?_⟩
  · rw [Int.lt_iff_le_and_ne]
    by_cases hneg : g * c < 0
    · rw [if_pos hneg] at hg
      have : g < 0 := by omega
      have hc : 0 < c := Int.pos_of_mul_neg_left (by rw [Int.mul_comm]; exact hneg) this
      exact ⟨by omega, by omega⟩
    · rw [if_neg hneg] at hg
      have : 0 < g := by omega
      have hc : 0 ≤ c := Int.nonneg_of_mul_nonneg_right (by omega) this
      have : c ≠ 0 := fun e => hy (by rw [e, Int.mul_zero])
      exact ⟨by omega, by omega⟩
  · rw [← Int.mul_assoc, Int.mul_comm a g]
  · rw [Int.natAbs_mul, Int.natAbs_mul, Nat.gcd_mul_left, ga] at hn
    have h2 : n * Nat.gcd a.natAbs c.natAbs = n * 1 := by rw [hn, Nat.mul_one]
    exact Nat.eq_of_mul_eq_mul_left hG h2
end SpX

set_option Elab.async false
set_option linter.all false
set_option maxRecDepth 100000
set_option maxHeartbeats 4000000
/-! What the laws draw: the pool, an int below a bound, the greatest common divisor. -/
namespace SpX
open PySem PySem.Spec L2
def t_pool (K : PySem.W.Frag) : TS :=
    (tSeq (tAsg (tLst tNil) (gName 1))
    (tSeq (tAsg (tLst tNil) (gName 2))
    (tSeq (tFor (iList K (tVar 0)) (gName 3) ((tIfS (tTest (tOp (rI0 fun i j => .bl (decide (j ≤ i))) (tCB rAbs1 (tCons (tCB rInt1 (tCons (tVar 3) tNil)) tNil)) (tOp (rI CPow fun i j => .int (i ^ j.toNat)) (tC (.int 10)) (tC (.int 18))))) (tDrop (tBM K "list" rAppend (tVar 1) (tCons (tCB rAbs1 (tCons (tCB rInt1 (tCons (tVar 3) tNil)) tNil)) tNil))) (tDrop (tBM K "list" rAppend (tVar 2) (tCons (tCB rAbs1 (tCons (tCB rInt1 (tCons (tVar 3) tNil)) tNil)) tNil))))))
    (tSeq (tIfS (tTest (tOp rEq (tCB rLenA (tCons (tVar 2) tNil)) (tC (.int 0)))) (tDrop (tBM K "list" rAppend (tVar 2) (tCons (tCB rLenA (tCons (tVar 1) tNil)) tNil))) tNext)
    (tRet (tLst (tCons (tVar 1) (tCons (tVar 2) (tCons (tC (.int 0)) tNil)))))))))
def t_take (K : PySem.W.Frag) : TS :=
    (tSeq (tIfS (tTest (tOp (rI0 fun i j => .bl (decide (i < j))) (tVar 1) (tC (.int 2)))) (tRet (tC (.int 0))) tNext)
    (tSeq (tIfS (tTest (tOp (rI0 fun i j => .bl (decide (j < i))) (tCB rLenA (tCons (tOp rIx1 (tVar 0) (tC (.int 0))) tNil)) (tC (.int 0)))) (tSeq (tAsg (tOp rIx1 (tOp rIx1 (tVar 0) (tC (.int 0))) (tC (.int 0))) (gName 5))
    (tSeq (tAsg (tCB rListA (tCons (tSl rSlA (tOp rIx1 (tVar 0) (tC (.int 0))) (tPart (tC (.int 1))) tNoPart) tNil)) (gName 6))
    (tSeq (tIfS (tTest (tOp (rI0 fun i j => .bl (decide (j < i))) (tOp (rI CDivF fun i j => .int (i.fdiv j)) (tVar 5) (tVar 1)) (tC (.int 0)))) (tAsg (tOp rCat (tLst (tCons (tOp (rI CDivF fun i j => .int (i.fdiv j)) (tVar 5) (tVar 1)) tNil)) (tVar 6)) (gName 6)) tNext)
    (tSeq (tAsg (tVar 6) (gSub (tVar 0) (tC (.int 0)) rSetL))
    (tRet (tOp (rI (fun _ j => 0 < j) fun i j => .int (i % j)) (tCB rInt1 (tCons (tVar 5) tNil)) (tVar 1))))))) tNext)
    (tSeq (tAsg (tOp rIx1 (tVar 0) (tC (.int 2))) (gName 2))
    (tSeq (tAsg (tOp (rI0 fun i j => .int (i + j)) (tVar 2) (tC (.int 1))) (gSub (tVar 0) (tC (.int 2)) rSetL))
    (tSeq (tAsg (tOp rIx1 (tOp rIx1 (tVar 0) (tC (.int 1))) (tOp (rI (fun _ j => 0 < j) fun i j => .int (i % j)) (tCB rInt1 (tCons (tOp (rI CDivF fun i j => .int (i.fdiv j)) (tVar 2) (tC (.int 4))) tNil)) (tCB rLenA (tCons (tOp rIx1 (tVar 0) (tC (.int 1))) tNil)))) (gName 3))
    (tSeq (tAsg (tOp (rI (fun _ j => 0 < j) fun i j => .int (i % j)) (tCB rInt1 (tCons (tOp (rI0 fun i j => .int (i + j)) (tOp (rI0 fun i j => .int (i + j)) (tOp (rI IntMulOk fun i j => .int (i * j)) (tVar 3) (tC (.int 48271))) (tOp (rI IntMulOk fun i j => .int (i * j)) (tVar 2) (tC (.int 69621)))) (tC (.int 12345))) tNil)) (tC (.int 2147483647))) (gName 4))
    (tSeq (tAsg (tOp (rI (fun _ j => 0 < j) fun i j => .int (i % j)) (tCB rInt1 (tCons (tOp (rI0 fun i j => .int (i + j)) (tOp (rI0 fun i j => .int (i + j)) (tOp (rI IntMulOk fun i j => .int (i * j)) (tVar 4) (tVar 4)) (tOp (rI IntMulOk fun i j => .int (i * j)) (tVar 2) (tC (.int 40692)))) (tC (.int 7))) tNil)) (tC (.int 2147483399))) (gName 4))
    (tSeq (tAsg (tOp (rI (fun _ j => 0 < j) fun i j => .int (i % j)) (tCB rInt1 (tCons (tOp (rI0 fun i j => .int (i + j)) (tOp (rI0 fun i j => .int (i + j)) (tOp (rI IntMulOk fun i j => .int (i * j)) (tVar 4) (tVar 4)) (tVar 3)) (tC (.int 3))) tNil)) (tC (.int 2147483563))) (gName 4))
    (tRet (tOp (rI (fun _ j => 0 < j) fun i j => .int (i % j)) (tCB rInt1 (tCons (tOp (rI CDivF fun i j => .int (i.fdiv j)) (tVar 4) (tC (.int 7))) tNil)) (tVar 1)))))))))))
def t_integer (K : PySem.W.Frag) : TS :=
    (tRet (tAndV (tCB (rIsi K) (tCons (tVar 0) (tCons (tC (.ty "int")) tNil))) (tNotV (tCB (rIsi K) (tCons (tVar 0) (tCons (tC (.ty "bool")) tNil))))))
def t_common (K : PySem.W.Frag) : TS :=
    (tSeq (tAsg (tCB rAbs1 (tCons (tVar 0) tNil)) (gName 0))
    (tSeq (tAsg (tCB rAbs1 (tCons (tVar 1) tNil)) (gName 1))
    (tSeq (tFor (iRng1 (tCons (tOp (rI0 fun i j => .int (i + j)) (tOp (rI IntMulOk fun i j => .int (i * j)) (tC (.int 2)) (tBits (tVar 1))) (tC (.int 2))) tNil)) (gName 2) ((tSeq (tIfS (tTest (tOp rEq (tVar 1) (tC (.int 0)))) (tRet (tVar 0)) tNext)
    (tSeq (tAsg (tOp (rI (fun _ j => 0 < j) fun i j => .int (i % j)) (tCB rInt1 (tCons (tVar 0) tNil)) (tVar 1)) (gName 3))
    (tSeq (tAsg (tVar 1) (gName 0))
    (tAsg (tVar 3) (gName 1)))))))
    (tRet (tVar 0)))))
/-- a pool: two lists of ints (the second not empty) and a count -/
structure PoolIs (H : Hp) (P g s : Addr) (G S : List Int) (c : Int) : Prop where
  p : H P = some (.lst [.ref g, .ref s, .int c])
  g : H g = some (.lst (G.map V.int))
  s : H s = some (.lst (S.map V.int))
  lg : G.length ≤ 64
  ls : S.length ≤ 64
  ne : S ≠ []
def PoolAt (H : Hp) (P : Addr) : Prop := ∃ g s G S c, PoolIs H P g s G S c
theorem PoolIs.pg {H : Hp} {P g s : Addr} {G S : List Int} {c : Int} (h : PoolIs H P g s G S c) : g ≠ P := fun e => by
  have h1 := h.g
  rw [e, h.p] at h1
  cases G with
  | nil => cases h1
  | cons a r => cases h1
theorem PoolIs.ps {H : Hp} {P g s : Addr} {G S : List Int} {c : Int} (h : PoolIs H P g s G S c) : s ≠ P := fun e => by
  have h1 := h.s
  rw [e, h.p] at h1
  cases S with
  | nil => cases h1
  | cons a r => cases h1
/-- the pool, an int below the bound; nothing but the pool changes -/
def spTake : Sp := fun vs H Q _ => ∃ (P : Addr) (most : Int), vs = [.ref P, .int most] ∧ PoolAt H P ∧ most.natAbs < 2 ^ 8000 ∧
  ∀ (r : Int) (H' : Hp), PoolAt H' P → Keep P H H' → 0 ≤ r → (2 ≤ most → r < most) → (most < 2 → r = 0) → Q (.int r) H'
theorem atI_map {S : List Int} {i : Int} (h0 : 0 ≤ i) (h1 : i < (S.length : Int)) : ∃ z, atI (S.map V.int) i = some (.int z) := by
  obtain ⟨n, rfl⟩ := Int.eq_ofNat_of_zero_le h0
  have hn : n < S.length := by omega
  refine ⟨S[n], ?_⟩
  rw [atI_nat (v := .int S[n]) (by rw [List.getElem?_map, List.getElem?_eq_getElem hn]; rfl)]
theorem small_div {i : Int} {j : Int} (h : 0 < j ∧ j < 1000) : CDivF i j := ⟨by omega, by
  have h1 : j.natAbs < 2 ^ 10 := by omega
  exact Nat.lt_of_lt_of_le (PySem.Flt.log2_lt_of (by decide) h1) (by decide)⟩
theorem pos_div {i : Int} {j : Int} (h0 : 0 < j) (h : j.natAbs < 2 ^ 8000) : CDivF i j := ⟨by omega, Nat.lt_of_lt_of_le (PySem.Flt.log2_lt_of (by decide) h) (by decide)⟩
theorem any_div {i : Int} {j : Int} (h0 : j ≠ 0) (h : j.natAbs < 2 ^ 8000) : CDivF i j := ⟨h0, Nat.lt_of_lt_of_le (PySem.Flt.log2_lt_of (by decide) h) (by decide)⟩
theorem pure_take {K : PySem.W.Frag} (vs : List V) (H : Hp) (Q : VK) (E : XK) (h : spTake vs H Q E) : t_take K { nx := fun _ H' => Q .non H', rt := Q } (start ["pool", "most", "count", "seed", "mixed", "value", "rest"] vs) H := by
  obtain ⟨P, most, rfl, ⟨g, s, G, S, c, hp⟩, hm, k⟩ := h
  have npg := hp.pg
  have nps := hp.ps
  obtain ⟨h1, h2, h3, hG, hS, hS0⟩ := id hp
  show t_take K _ [some (.ref P), some (.int most), none, none, none, none, none] H
  unfold t_take
  have a0 : atI [V.ref g, .ref s, .int c] 0 = some (.ref g) := rfl
  have a1 : atI [V.ref g, .ref s, .int c] 1 = some (.ref s) := rfl
  have a2 : atI [V.ref g, .ref s, .int c] 2 = some (.int c) := rfl
  have ix0 : ixN [V.ref g, .ref s, .int c].length 0 = some 0 := rfl
  have ix2 : ixN [V.ref g, .ref s, .int c].length 2 = some 2 := rfl
  simp only [x_seq, x_if, x_test, x_B, x_op, x_un, x_varS, x_var0, x_c, x_I0, x_I, x_U, x_bl, x_ret, x_next, x_asg, x_name, x_set0, x_setS, x_drop, x_cb, x_cons, x_nil, x_int1, x_abs1, x_max2, x_gcd, x_gsub, x_sl, x_part, x_nopart, x_int, x_call, x_lst, x_tup, x_not, x_and, x_or, x_andV, x_orV, x_notV, x_ifE, x_eqI, x_neI, x_eqB, x_neB, x_tbm, decide_eq_true_eq, List.append_nil, List.nil_append, List.cons_append, x_ix h1 a0, x_lenA h2, List.length_map]
  refine ite2 (fun hlt => k 0 H ⟨g, s, G, S, c, hp⟩ (Keep.refl _ _) (Int.le_refl _) (fun z => absurd hlt (by omega)) fun _ => rfl) fun hge => ?_
  have hmost : (0 : Int) < most := by omega
  refine ite2 (fun hlen => ?_) (fun hlen => ?_)
  · -- an int of the greats
    obtain ⟨z, G', rfl⟩ : ∃ z G', G = z :: G' := by
      cases G with
      | nil => exact absurd hlen (by simp)
      | cons a r => exact ⟨a, r, rfl⟩
    have b0 : atI ((z :: G').map V.int) 0 = some (.int z) := atI_0
    have ec : cutV ((z :: G').map V.int) (some 1) none = G'.map V.int := by
      unfold cutV
      rw [show (1 : Int) = ((1 : Nat) : Int) from rfl, HT.sIx_nat, HT.sIx_none]
      simp only [List.map_cons, List.length_cons, List.length_map, Nat.add_sub_cancel]
      rw [Nat.min_eq_left (by omega)]
      simp only [List.drop_succ_cons, List.drop_zero, Nat.add_sub_cancel]
      rw [← List.length_map (f := V.int) (as := G'), List.take_length]
    simp only [x_seq, x_if, x_test, x_B, x_op, x_un, x_varS, x_var0, x_c, x_I0, x_I, x_U, x_bl, x_ret, x_next, x_asg, x_name, x_set0, x_setS, x_drop, x_cb, x_cons, x_nil, x_int1, x_abs1, x_max2, x_gcd, x_gsub, x_sl, x_part, x_nopart, x_int, x_call, x_lst, x_tup, x_not, x_and, x_or, x_andV, x_orV, x_notV, x_ifE, x_eqI, x_neI, x_eqB, x_neB, x_tbm, decide_eq_true_eq, List.append_nil, List.nil_append, List.cons_append, x_ix h2 b0, x_ix h1 a0, x_slA h2, ec]
    intro q hq
    have hq1 : (upd H q (.lst (G'.map V.int))) q = some (.lst (G'.map V.int)) := upd_same
    simp only [x_listA hq1]
    intro q2 hq2
    have e2 : (upd (upd H q (.lst (G'.map V.int))) q2 (.lst (G'.map V.int))) q2 = some (.lst (G'.map V.int)) := upd_same
    have s2 : Same H (upd (upd H q (.lst (G'.map V.int))) q2 (.lst (G'.map V.int))) := Same.new' (Same.new hq) hq2
    generalize (upd (upd H q (.lst (G'.map V.int))) q2 (.lst (G'.map V.int))) = H2 at e2 s2
    -- behind: the rest is stored, the remainder goes back
    have fin : ∀ (r : Addr) (H3 : Hp) (R : List Int), R.length ≤ 64 → H3 r = some (.lst (R.map V.int)) → Same H H3 →
        Q (.int (z % most)) (upd H3 P (.lst [.ref r, .ref s, .int c])) := by
      intro r H3 R hR hr s3
      have hrP : r ≠ P := by
        intro e
        have hP := s3 _ _ h1
        rw [e, hP] at hr
        cases R with
        | nil => cases hr
        | cons a l => cases hr
      refine k _ _ ⟨r, s, R, S, c, ⟨upd_same, ?_, ?_, hR, hS, hS0⟩⟩ (Keep.at (Keep.of s3)) (Int.emod_nonneg _ (by omega)) (fun _ => Int.emod_lt_of_pos _ hmost) (fun z => absurd z (by omega))
      · rw [upd_ne hrP]
        exact hr
      · rw [upd_ne nps]
        exact s3 _ _ h3
    have hP2 := s2 _ _ h1
    refine ⟨pos_div hmost hm, ?_⟩
    refine ite2 (fun hd => ?_) (fun hd => ?_)
    · refine ⟨pos_div hmost hm, by show 1 ≤ sizeLine; decide, fun q3 hq3 => ?_⟩
      have e3 : (upd H2 q3 (.lst [.int (z.fdiv most)])) q3 = some (.lst [.int (z.fdiv most)]) := upd_same
      have s3 : Same H2 (upd H2 q3 (.lst [.int (z.fdiv most)])) := Same.new hq3
      have e4 := s3 _ _ e2
      generalize (upd H2 q3 (.lst [.int (z.fdiv most)])) = H3 at e3 s3 e4
      simp only [x_cat e3 e4 (by rw [List.length_map]; exact sl5 (by simp only [List.length_cons] at hG; simp only [List.length_cons, List.length_nil]; omega))]
      intro q4 hq4
      have e5 : (upd H3 q4 (.lst ([V.int (z.fdiv most)] ++ G'.map V.int))) q4 = some (.lst ((z.fdiv most :: G').map V.int)) := upd_same
      have s5 : Same H (upd H3 q4 (.lst ([V.int (z.fdiv most)] ++ G'.map V.int))) := Same.new' (s2.trans s3) hq4
      generalize (upd H3 q4 (.lst ([V.int (z.fdiv most)] ++ G'.map V.int))) = H5 at e5 s5
      simp only [x_seq, x_if, x_test, x_B, x_op, x_un, x_varS, x_var0, x_c, x_I0, x_I, x_U, x_bl, x_ret, x_next, x_asg, x_name, x_set0, x_setS, x_drop, x_cb, x_cons, x_nil, x_int1, x_abs1, x_max2, x_gcd, x_gsub, x_sl, x_part, x_nopart, x_int, x_call, x_lst, x_tup, x_not, x_and, x_or, x_andV, x_orV, x_notV, x_ifE, x_eqI, x_neI, x_eqB, x_neB, x_tbm, decide_eq_true_eq, List.append_nil, List.nil_append, List.cons_append, x_setL (s5 _ _ h1) ix0]
      exact ⟨hmost, fin q4 H5 (z.fdiv most :: G') hG e5 s5⟩
    · simp only [x_seq, x_if, x_test, x_B, x_op, x_un, x_varS, x_var0, x_c, x_I0, x_I, x_U, x_bl, x_ret, x_next, x_asg, x_name, x_set0, x_setS, x_drop, x_cb, x_cons, x_nil, x_int1, x_abs1, x_max2, x_gcd, x_gsub, x_sl, x_part, x_nopart, x_int, x_call, x_lst, x_tup, x_not, x_and, x_or, x_andV, x_orV, x_notV, x_ifE, x_eqI, x_neI, x_eqB, x_neB, x_tbm, decide_eq_true_eq, List.append_nil, List.nil_append, List.cons_append, x_setL hP2 ix0]
      exact ⟨hmost, fin q2 H2 G' (by simp only [List.length_cons] at hG; omega) e2 s2⟩
  · -- an int reckoned of the smalls
    have h4 : (upd H P (.lst [.ref g, .ref s, .int (c + 1)])) P = some (.lst [.ref g, .ref s, .int (c + 1)]) := upd_same
    have h5 : (upd H P (.lst [.ref g, .ref s, .int (c + 1)])) s = some (.lst (S.map V.int)) := by
      rw [upd_ne nps]
      exact h3
    have hp4 : PoolAt (upd H P (.lst [.ref g, .ref s, .int (c + 1)])) P := ⟨g, s, G, S, c + 1, ⟨h4, by rw [upd_ne npg]; exact h2, h5, hG, hS, hS0⟩⟩
    have k4 : Keep P H (upd H P (.lst [.ref g, .ref s, .int (c + 1)])) := Keep.at (Keep.refl _ _)
    have es : ([V.ref g, .ref s, .int c].set 2 (.int (c + 1))) = [V.ref g, .ref s, .int (c + 1)] := rfl
    have b1 : atI [V.ref g, .ref s, .int (c + 1)] 1 = some (.ref s) := rfl
    simp only [x_seq, x_if, x_test, x_B, x_op, x_un, x_varS, x_var0, x_c, x_I0, x_I, x_U, x_bl, x_ret, x_next, x_asg, x_name, x_set0, x_setS, x_drop, x_cb, x_cons, x_nil, x_int1, x_abs1, x_max2, x_gcd, x_gsub, x_sl, x_part, x_nopart, x_int, x_call, x_lst, x_tup, x_not, x_and, x_or, x_andV, x_orV, x_notV, x_ifE, x_eqI, x_neI, x_eqB, x_neB, x_tbm, decide_eq_true_eq, List.append_nil, List.nil_append, List.cons_append, x_ix h1 a2, x_setL h1 ix2, es]
    generalize (upd H P (.lst [.ref g, .ref s, .int (c + 1)])) = H4 at h4 h5 hp4 k4
    have hSl : (0 : Int) < (S.length : Int) := by
      cases S with
      | nil => exact absurd rfl hS0
      | cons a r => simp only [List.length_cons]; omega
    simp only [x_seq, x_if, x_test, x_B, x_op, x_un, x_varS, x_var0, x_c, x_I0, x_I, x_U, x_bl, x_ret, x_next, x_asg, x_name, x_set0, x_setS, x_drop, x_cb, x_cons, x_nil, x_int1, x_abs1, x_max2, x_gcd, x_gsub, x_sl, x_part, x_nopart, x_int, x_call, x_lst, x_tup, x_not, x_and, x_or, x_andV, x_orV, x_notV, x_ifE, x_eqI, x_neI, x_eqB, x_neB, x_tbm, decide_eq_true_eq, List.append_nil, List.nil_append, List.cons_append, x_ix h4 b1, x_lenA h5, List.length_map]
    refine ⟨small_div (by decide), hSl, ?_⟩
    obtain ⟨sd, hsd⟩ := atI_map (S := S) (i := (c.fdiv 4) % (S.length : Int)) (Int.emod_nonneg _ (by omega)) (Int.emod_lt_of_pos _ hSl)
    simp only [x_seq, x_if, x_test, x_B, x_op, x_un, x_varS, x_var0, x_c, x_I0, x_I, x_U, x_bl, x_ret, x_next, x_asg, x_name, x_set0, x_setS, x_drop, x_cb, x_cons, x_nil, x_int1, x_abs1, x_max2, x_gcd, x_gsub, x_sl, x_part, x_nopart, x_int, x_call, x_lst, x_tup, x_not, x_and, x_or, x_andV, x_orV, x_notV, x_ifE, x_eqI, x_neI, x_eqB, x_neB, x_tbm, decide_eq_true_eq, List.append_nil, List.nil_append, List.cons_append, x_ix h5 hsd]
    refine ⟨mul_lit (by decide), mul_lit (by decide), by decide, ?_⟩
    generalize (sd * 48271 + c * 69621 + 12345) = m0
    have hm0 : -(2 ^ 64) < m0 % 2147483647 ∧ m0 % 2147483647 < 2 ^ 64 := by omega
    refine ⟨mul_lit hm0, mul_lit (by decide), by decide, ?_⟩
    generalize (m0 % 2147483647 * (m0 % 2147483647) + c * 40692 + 7) = m1
    have hm1 : -(2 ^ 64) < m1 % 2147483399 ∧ m1 % 2147483399 < 2 ^ 64 := by omega
    refine ⟨mul_lit hm1, by decide, small_div (by decide), hmost, ?_⟩
    exact k _ _ hp4 k4 (Int.emod_nonneg _ (by omega)) (fun _ => Int.emod_lt_of_pos _ hmost) (fun z => absurd z (by omega))

/-- a new pool of the script -/
def spPool (K : PySem.W.Frag) : Sp := fun vs H Q _ => ∃ (a : Addr) (ns : List Int), vs = [.ref a] ∧ SqL K H a (ns.map V.int) ∧ ns.length ≤ 63 ∧ ∀ (P : Addr) (H' : Hp), PoolAt H' P → Same H H' → Q (.ref P) H'
theorem pure_pool {K : PySem.W.Frag} (vs : List V) (H : Hp) (Q : VK) (E : XK) (h : spPool K vs H Q E) : t_pool K { nx := fun _ H' => Q .non H', rt := Q } (start ["script", "greats", "smalls", "cell"] vs) H := by
  obtain ⟨a, ns, rfl, hS, hn, k⟩ := h
  show t_pool K _ [some (.ref a), none, none, none] H
  unfold t_pool
  simp only [x_seq, x_if, x_test, x_B, x_op, x_un, x_varS, x_var0, x_c, x_I0, x_I, x_U, x_bl, x_ret, x_next, x_asg, x_name, x_set0, x_setS, x_drop, x_cb, x_cons, x_nil, x_int1, x_abs1, x_max2, x_gcd, x_gsub, x_sl, x_part, x_nopart, x_int, x_call, x_lst, x_tup, x_not, x_and, x_or, x_andV, x_orV, x_notV, x_ifE, x_eqI, x_neI, x_eqB, x_neB, x_tbm, decide_eq_true_eq, List.append_nil, List.nil_append, List.cons_append]
  refine ⟨by decide, fun g hg => ⟨by decide, fun s hs => ?_⟩⟩
  have ngs : s ≠ g := fun e => by
    subst e
    rw [upd_same] at hs
    cases hs
  have s0 : Same H (upd (upd H g (.lst [])) s (.lst [])) := Same.new' (Same.new hg) hs
  have hs0 : H s = none := (Same.new hg).free hs
  refine ⟨_, rfl, a, rfl, ⟨_, s0.seq hS⟩, for_list (K := K) (a := a) (xs := ns.map V.int) (fun i σ H' => ∃ (G S : List Int) (cl : Option V), σ = [some (.ref a), some (.ref g), some (.ref s), cl] ∧ H' g = some (.lst (G.map V.int)) ∧ H' s = some (.lst (S.map V.int)) ∧ G.length ≤ i ∧ S.length ≤ i ∧ Same H H')
    ⟨[], [], none, rfl, by rw [upd_ne ngs.symm, upd_same]; rfl, by rw [upd_same]; rfl, Nat.le_refl _, Nat.le_refl _, s0⟩ (fun i σ H' _ ⟨_, _, _, _, _, _, _, _, s1⟩ => s1.seq hS) ?_ ?_⟩
  · rintro i y σ H' hi ⟨G, S, cl, rfl, h1, h2, l1, l2, s1⟩
    have hil : i < ns.length := by
      have := (List.getElem?_eq_some_iff.mp hi).1
      rwa [List.length_map] at this
    obtain ⟨z, rfl⟩ : ∃ z, y = V.int z := by
      rw [List.getElem?_map] at hi
      cases e : ns[i]? with
      | none => rw [e] at hi; cases hi
      | some z => rw [e] at hi; exact ⟨z, (Option.some.inj hi).symm⟩
    have ha : ∀ (l : List Int) (b : Int), l.map V.int ++ [V.int b] = (l ++ [b]).map V.int := fun l b => by rw [List.map_append]; rfl
    simp only [x_seq, x_if, x_test, x_B, x_op, x_un, x_varS, x_var0, x_c, x_I0, x_I, x_U, x_bl, x_ret, x_next, x_asg, x_name, x_set0, x_setS, x_drop, x_cb, x_cons, x_nil, x_int1, x_abs1, x_max2, x_gcd, x_gsub, x_sl, x_part, x_nopart, x_int, x_call, x_lst, x_tup, x_not, x_and, x_or, x_andV, x_orV, x_notV, x_ifE, x_eqI, x_neI, x_eqB, x_neB, x_tbm, decide_eq_true_eq, List.append_nil, List.nil_append, List.cons_append]
    refine ⟨⟨by decide, by decide, by decide⟩, ?_⟩
    refine ite2 (fun _ => ?_) (fun _ => ?_)
    · refine ⟨ty_lst h1, ?_⟩
      simp only [x_append h1 (by rw [List.length_map]; exact Nat.lt_of_le_of_lt l1 (Nat.lt_of_lt_of_le (show i < 1000 by omega) (by decide)))]
      refine ⟨G ++ [if z < 0 then -z else z], S, _, rfl, by rw [upd_same, ha], by rw [upd_ne ngs]; exact h2, by rw [List.length_append]; simp; omega, by omega, fun b o e => ?_⟩
      rw [upd_ne (ne_of_none e hg)]
      exact s1 b o e
    · refine ⟨ty_lst h2, ?_⟩
      simp only [x_append h2 (by rw [List.length_map]; exact Nat.lt_of_le_of_lt l2 (Nat.lt_of_lt_of_le (show i < 1000 by omega) (by decide)))]
      refine ⟨G, S ++ [if z < 0 then -z else z], _, rfl, by rw [upd_ne ngs.symm]; exact h1, by rw [upd_same, ha], by omega, by rw [List.length_append]; simp; omega, fun b o e => ?_⟩
      rw [upd_ne (ne_of_none e hs0)]
      exact s1 b o e
  · rintro σ H' ⟨G, S, cl, rfl, h1, h2, l1, l2, s1⟩
    rw [List.length_map] at l1 l2
    -- the pool's own list
    have fin : ∀ (H2 : Hp) (S2 : List Int), H2 g = some (.lst (G.map V.int)) → H2 s = some (.lst (S2.map V.int)) → Same H H2 → S2 ≠ [] → S2.length ≤ 64 → ∀ p, H2 p = none → Q (.ref p) (upd H2 p (.lst [.ref g, .ref s, .int 0])) := by
      intro H2 S2 e1 e2 s2 ne l p hp
      refine k p _ ⟨g, s, G, S2, 0, ⟨upd_same, ?_, ?_, by omega, l, ne⟩⟩ (Same.new' s2 hp)
      · rw [upd_ne (ne_of_none e1 hp)]
        exact e1
      · rw [upd_ne (ne_of_none e2 hp)]
        exact e2
    simp only [x_seq, x_if, x_test, x_B, x_op, x_un, x_varS, x_var0, x_c, x_I0, x_I, x_U, x_bl, x_ret, x_next, x_asg, x_name, x_set0, x_setS, x_drop, x_cb, x_cons, x_nil, x_int1, x_abs1, x_max2, x_gcd, x_gsub, x_sl, x_part, x_nopart, x_int, x_call, x_lst, x_tup, x_not, x_and, x_or, x_andV, x_orV, x_notV, x_ifE, x_eqI, x_neI, x_eqB, x_neB, x_tbm, decide_eq_true_eq, List.append_nil, List.nil_append, List.cons_append, x_lenA h2, x_lenA h1, List.length_map]
    refine ite2 (fun hz => ?_) (fun hz => ?_)
    · refine ⟨ty_lst h2, ?_⟩
      simp only [x_append h2 (by rw [List.length_map]; exact Nat.lt_of_le_of_lt l2 (Nat.lt_of_lt_of_le (show ns.length < 1000 by omega) (by decide)))]
      have hS0 : S = [] := by
        cases S with
        | nil => rfl
        | cons a r => simp only [List.length_cons] at hz; omega
      subst hS0
      refine ⟨(by show 3 ≤ sizeLine; decide), fin _ [(G.length : Int)] (by rw [upd_ne ngs.symm]; exact h1) (by rw [upd_same]; rfl) (fun b o e => ?_) (by simp) (by simp)⟩
      rw [upd_ne (ne_of_none e hs0)]
      exact s1 b o e
    · exact ⟨(by show 3 ≤ sizeLine; decide), fin _ S h1 h2 s1 (fun e => hz (by subst e; rfl)) (by omega)⟩

/-- an int is told as one -/
def spInteger : Sp := fun vs H Q _ => ∃ i : Int, vs = [.int i] ∧ Q (.bl true) H
theorem pure_integer {K : PySem.W.Frag} (vs : List V) (H : Hp) (Q : VK) (E : XK) (h : spInteger vs H Q E) : t_integer K { nx := fun _ H' => Q .non H', rt := Q } (start ["thing"] vs) H := by
  obtain ⟨i, rfl, k⟩ := h
  show t_integer K _ [some (.int i)] H
  unfold t_integer
  simp only [x_seq, x_if, x_test, x_B, x_op, x_un, x_varS, x_var0, x_c, x_I0, x_I, x_U, x_bl, x_ret, x_next, x_asg, x_name, x_set0, x_setS, x_drop, x_cb, x_cons, x_nil, x_int1, x_abs1, x_max2, x_gcd, x_gsub, x_sl, x_part, x_nopart, x_int, x_call, x_lst, x_tup, x_not, x_and, x_or, x_andV, x_orV, x_notV, x_ifE, x_eqI, x_neI, x_eqB, x_neB, x_tbm, decide_eq_true_eq, List.append_nil, List.nil_append, List.cons_append]
  refine ⟨_, _, .type "int", .type "int", true, rfl, .ty _, .base (.int _), kit_ty (by decide +kernel), true, rfl, ?_⟩
  rw [if_pos rfl]
  refine ⟨_, _, .type "int", .type "bool", false, rfl, .ty _, .base (.int _), kit_ty (by decide +kernel), false, rfl, ?_⟩
  exact k

/-! ### the greatest common divisor, by Euclid with turns enough -/
theorem emod_half {x y : Int} (hy : 0 < y) (h : y < x) : 2 * (x % y) < x := by
  have h1 : x % y < y := Int.emod_lt_of_pos _ hy
  have h2 : y * (x / y) + x % y = x := Int.mul_ediv_add_emod x y
  have h3 : 1 ≤ x / y := by
    have := Int.le_ediv_of_mul_le (a := 1) hy (by omega : 1 * y ≤ x)
    exact this
  have h4 : y * 1 ≤ y * (x / y) := Int.mul_le_mul_of_nonneg_left h3 (by omega)
  omega
/-- what holds behind i turns: b0 the second number at the start -/
def Eu (a0 b0 : Int) (i : Nat) (x y : Int) : Prop := 0 ≤ x ∧ 0 ≤ y ∧ Nat.gcd x.natAbs y.natAbs = Nat.gcd a0.natAbs b0.natAbs ∧
  ((i % 2 = 0 ∧ 2 ^ (i / 2) * y ≤ b0) ∨ (i % 2 = 1 ∧ 2 ^ (i / 2) * x ≤ b0 ∧ y < x))
theorem Eu.turn {a0 b0 x y : Int} {i : Nat} (h : Eu a0 b0 i x y) (hy : y ≠ 0) : Eu a0 b0 (i + 1) y (x % y) := by
  obtain ⟨h1, h2, h3, h4⟩ := h
  have hp : 0 < y := by omega
  have n1 := Int.emod_nonneg x hy
  have n2 := Int.emod_lt_of_pos x hp
  refine ⟨h2, n1, ?_, ?_⟩
  · rw [← h3]
    have e : (x % y).natAbs = x.natAbs % y.natAbs := by
      have e1 : (x % y).natAbs = (x.natAbs % y.natAbs) := by
        rw [Int.natAbs_emod_of_nonneg h1]
      exact e1
    rw [e, Nat.gcd_comm y.natAbs, ← Nat.gcd_rec, Nat.gcd_comm]
  · rcases h4 with ⟨p, q⟩ | ⟨p, q, r⟩
    · right
      refine ⟨by omega, ?_, n2⟩
      rw [show (i + 1) / 2 = i / 2 by omega]
      exact q
    · left
      refine ⟨by omega, ?_⟩
      have e : (i + 1) / 2 = i / 2 + 1 := by omega
      rw [e, Int.pow_succ, Int.mul_assoc]
      have hh := emod_half hp r
      exact Int.le_trans (Int.mul_le_mul_of_nonneg_left (by omega) (Int.le_of_lt (Int.pow_pos (by decide)))) q
theorem Eu.end_ {a0 b0 x y : Int} {n B : Nat} (h : Eu a0 b0 n x y) (hn : n = 2 * B + 2) (hb : b0 < 2 ^ B) : y = 0 := by
  obtain ⟨h1, h2, h3, h4⟩ := h
  subst hn
  rcases h4 with ⟨p, q⟩ | ⟨p, q, r⟩
  · rw [show (2 * B + 2) / 2 = B + 1 by omega, Int.pow_succ] at q
    by_cases hy : y = 0
    · exact hy
    · exfalso
      have hp : (0 : Int) < 2 ^ B := Int.pow_pos (by decide)
      have h5 : 2 ^ B * 2 * 1 ≤ 2 ^ B * 2 * y := Int.mul_le_mul_of_nonneg_left (by omega) (by omega)
      omega
  · omega
theorem bits_lt (b : Int) (h : 0 ≤ b) : b < 2 ^ (Builtin.Int.intBits b) := by
  unfold Builtin.Int.intBits
  split
  · rename_i hz
    have : b = 0 := by simpa using hz
    subst this
    decide
  · rename_i hz
    have h1 : b.natAbs < 2 ^ (b.natAbs.log2 + 1) := Nat.lt_log2_self
    have h2 : (b.natAbs : Int) < ((2 ^ (b.natAbs.log2 + 1) : Nat) : Int) := Int.ofNat_lt.mpr h1
    rw [Int.natAbs_of_nonneg h] at h2
    simpa using h2
theorem bits_small {b : Int} (h : b.natAbs < 2 ^ 8000) : Builtin.Int.intBits b ≤ 8000 := by
  unfold Builtin.Int.intBits
  split
  · omega
  · have := PySem.Flt.log2_lt_of (by decide) h
    omega
/-- gcd -/
def spCommon : Sp := fun vs H Q _ => ∃ a b : Int, vs = [.int a, .int b] ∧ b.natAbs < 2 ^ 8000 ∧ Q (.int ((Nat.gcd a.natAbs b.natAbs : Nat) : Int)) H
theorem abs_if (a : Int) : (if a < 0 then -a else a) = (a.natAbs : Int) := by split <;> omega
theorem pure_common {K : PySem.W.Frag} (vs : List V) (H : Hp) (Q : VK) (E : XK) (h : spCommon vs H Q E) : t_common K { nx := fun _ H' => Q .non H', rt := Q } (start ["one", "two", "k", "rest"] vs) H := by
  obtain ⟨a, b, rfl, hb, k⟩ := h
  show t_common K _ [some (.int a), some (.int b), none, none] H
  unfold t_common
  simp only [x_seq, x_if, x_test, x_B, x_op, x_un, x_varS, x_var0, x_c, x_I0, x_I, x_U, x_bl, x_ret, x_next, x_asg, x_name, x_set0, x_setS, x_drop, x_cb, x_cons, x_nil, x_int1, x_abs1, x_max2, x_gcd, x_gsub, x_sl, x_part, x_nopart, x_int, x_call, x_lst, x_tup, x_not, x_and, x_or, x_andV, x_orV, x_notV, x_ifE, x_eqI, x_neI, x_eqB, x_neB, x_tbm, decide_eq_true_eq, List.append_nil, List.nil_append, List.cons_append, abs_if]
  have hB := bits_small (b := (b.natAbs : Int)) (by simpa using hb)
  have hlt := bits_lt (b.natAbs : Int) (by omega)
  refine ⟨_, rfl, _, rfl, _, _, rfl, rfl, mul_lit' (by decide), _, _, rfl, rfl, _, rfl, by omega, by omega, ?_⟩
  rw [show (2 * (Builtin.Int.intBits (b.natAbs : Int) : Int) + 2).toNat = 2 * Builtin.Int.intBits (b.natAbs : Int) + 2 by omega]
  refine for_range (lo := 0) (fun i σ H' => H' = H ∧ ∃ (x y : Int) (u v : Option V), σ = [some (.int x), some (.int y), u, v] ∧ Eu (a.natAbs : Int) (b.natAbs : Int) i x y) ⟨rfl, _, _, none, none, rfl, by omega, by omega, rfl, .inl ⟨rfl, by simp⟩⟩ ?_ ?_
  · rintro i σ H' hi ⟨rfl, x, y, u, v, rfl, hE⟩
    simp only [x_seq, x_if, x_test, x_B, x_op, x_un, x_varS, x_var0, x_c, x_I0, x_I, x_U, x_bl, x_ret, x_next, x_asg, x_name, x_set0, x_setS, x_drop, x_cb, x_cons, x_nil, x_int1, x_abs1, x_max2, x_gcd, x_gsub, x_sl, x_part, x_nopart, x_int, x_call, x_lst, x_tup, x_not, x_and, x_or, x_andV, x_orV, x_notV, x_ifE, x_eqI, x_neI, x_eqB, x_neB, x_tbm, decide_eq_true_eq, List.append_nil, List.nil_append, List.cons_append]
    refine ite2 (fun hy => ?_) (fun hy => ?_)
    · have h3 := hE.2.2.1
      have h1 := hE.1
      rw [hy] at h3
      simp only [Int.natAbs_zero, Nat.gcd_zero_right, Int.natAbs_natCast] at h3
      rw [show x = ((Nat.gcd a.natAbs b.natAbs : Nat) : Int) by rw [← h3]; omega]
      exact k
    · have := hE.2.1
      exact ⟨by omega, trivial, _, _, _, _, rfl, hE.turn hy⟩
  · rintro σ H' ⟨rfl, x, y, u, v, rfl, hE⟩
    have hy := hE.end_ rfl hlt
    have h3 := hE.2.2.1
    have h1 := hE.1
    rw [hy] at h3
    simp only [Int.natAbs_zero, Nat.gcd_zero_right, Int.natAbs_natCast] at h3
    simp only [x_seq, x_if, x_test, x_B, x_op, x_un, x_varS, x_var0, x_c, x_I0, x_I, x_U, x_bl, x_ret, x_next, x_asg, x_name, x_set0, x_setS, x_drop, x_cb, x_cons, x_nil, x_int1, x_abs1, x_max2, x_gcd, x_gsub, x_sl, x_part, x_nopart, x_int, x_call, x_lst, x_tup, x_not, x_and, x_or, x_andV, x_orV, x_notV, x_ifE, x_eqI, x_neI, x_eqB, x_neB, x_tbm, decide_eq_true_eq, List.append_nil, List.nil_append, List.cons_append]
    rw [show x = ((Nat.gcd a.natAbs b.natAbs : Nat) : Int) by rw [← h3]; omega]
    exact k
end SpX

set_option Elab.async false
set_option linter.all false
set_option maxRecDepth 100000
set_option maxHeartbeats 2000000
/-! Draws beside lists that grow: the pool's own lists are none of those in B. -/
namespace SpX
open PySem PySem.Spec L2
def PoolB (B : Addr → Prop) (H : Hp) (P : Addr) : Prop := ∃ g s G S c, PoolIs H P g s G S c ∧ ¬ B g ∧ ¬ B s
def spTakeB : Sp := fun vs H Q _ => ∃ (P : Addr) (most : Int) (B : Addr → Prop), vs = [.ref P, .int most] ∧ PoolB B H P ∧ (∀ b, B b → ∃ o, H b = some o) ∧ most.natAbs < 2 ^ 8000 ∧
  ∀ (r : Int) (H' : Hp), PoolB B H' P → Keep P H H' → 0 ≤ r → (2 ≤ most → r < most) → (most < 2 → r = 0) → Q (.int r) H'
theorem pure_takeB {K : PySem.W.Frag} (vs : List V) (H : Hp) (Q : VK) (E : XK) (h : spTakeB vs H Q E) : t_take K { nx := fun _ H' => Q .non H', rt := Q } (start ["pool", "most", "count", "seed", "mixed", "value", "rest"] vs) H := by
  obtain ⟨P, most, B, rfl, ⟨g, s, G, S, c, hp, bg, bs⟩, hB, hm, k⟩ := h
  have npg := hp.pg
  have nps := hp.ps
  obtain ⟨h1, h2, h3, hG, hS, hS0⟩ := id hp
  show t_take K _ [some (.ref P), some (.int most), none, none, none, none, none] H
  unfold t_take
  have a0 : atI [V.ref g, .ref s, .int c] 0 = some (.ref g) := rfl
  have a1 : atI [V.ref g, .ref s, .int c] 1 = some (.ref s) := rfl
  have a2 : atI [V.ref g, .ref s, .int c] 2 = some (.int c) := rfl
  have ix0 : ixN [V.ref g, .ref s, .int c].length 0 = some 0 := rfl
  have ix2 : ixN [V.ref g, .ref s, .int c].length 2 = some 2 := rfl
  simp only [x_seq, x_if, x_test, x_B, x_op, x_un, x_varS, x_var0, x_c, x_I0, x_I, x_U, x_bl, x_ret, x_next, x_asg, x_name, x_set0, x_setS, x_drop, x_cb, x_cons, x_nil, x_int1, x_abs1, x_max2, x_gcd, x_gsub, x_sl, x_part, x_nopart, x_int, x_call, x_lst, x_tup, x_not, x_and, x_or, x_andV, x_orV, x_notV, x_ifE, x_eqI, x_neI, x_eqB, x_neB, x_tbm, decide_eq_true_eq, List.append_nil, List.nil_append, List.cons_append, x_ix h1 a0, x_lenA h2, List.length_map]
  refine ite2 (fun hlt => k 0 H ⟨g, s, G, S, c, hp, bg, bs⟩ (Keep.refl _ _) (Int.le_refl _) (fun z => absurd hlt (by omega)) fun _ => rfl) fun hge => ?_
  have hmost : (0 : Int) < most := by omega
  refine ite2 (fun hlen => ?_) (fun hlen => ?_)
  · -- an int of the greats
    obtain ⟨z, G', rfl⟩ : ∃ z G', G = z :: G' := by
      cases G with
      | nil => exact absurd hlen (by simp)
      | cons a r => exact ⟨a, r, rfl⟩
    have b0 : atI ((z :: G').map V.int) 0 = some (.int z) := atI_0
    have ec : cutV ((z :: G').map V.int) (some 1) none = G'.map V.int := by
      unfold cutV
      rw [show (1 : Int) = ((1 : Nat) : Int) from rfl, HT.sIx_nat, HT.sIx_none]
      simp only [List.map_cons, List.length_cons, List.length_map, Nat.add_sub_cancel]
      rw [Nat.min_eq_left (by omega)]
      simp only [List.drop_succ_cons, List.drop_zero, Nat.add_sub_cancel]
      rw [← List.length_map (f := V.int) (as := G'), List.take_length]
    simp only [x_seq, x_if, x_test, x_B, x_op, x_un, x_varS, x_var0, x_c, x_I0, x_I, x_U, x_bl, x_ret, x_next, x_asg, x_name, x_set0, x_setS, x_drop, x_cb, x_cons, x_nil, x_int1, x_abs1, x_max2, x_gcd, x_gsub, x_sl, x_part, x_nopart, x_int, x_call, x_lst, x_tup, x_not, x_and, x_or, x_andV, x_orV, x_notV, x_ifE, x_eqI, x_neI, x_eqB, x_neB, x_tbm, decide_eq_true_eq, List.append_nil, List.nil_append, List.cons_append, x_ix h2 b0, x_ix h1 a0, x_slA h2, ec]
    intro q hq
    have hq1 : (upd H q (.lst (G'.map V.int))) q = some (.lst (G'.map V.int)) := upd_same
    simp only [x_listA hq1]
    intro q2 hq2
    have e2 : (upd (upd H q (.lst (G'.map V.int))) q2 (.lst (G'.map V.int))) q2 = some (.lst (G'.map V.int)) := upd_same
    have s2 : Same H (upd (upd H q (.lst (G'.map V.int))) q2 (.lst (G'.map V.int))) := Same.new' (Same.new hq) hq2
    have n2 : ¬ B q2 := fun z => by
      obtain ⟨o, e⟩ := hB q2 z
      have e' := Same.new (o := .lst (G'.map V.int)) hq q2 o e
      rw [hq2] at e'
      cases e'
    generalize (upd (upd H q (.lst (G'.map V.int))) q2 (.lst (G'.map V.int))) = H2 at e2 s2
    -- behind: the rest is stored, the remainder goes back
    have fin : ∀ (r : Addr) (H3 : Hp) (R : List Int), ¬ B r → R.length ≤ 64 → H3 r = some (.lst (R.map V.int)) → Same H H3 →
        Q (.int (z % most)) (upd H3 P (.lst [.ref r, .ref s, .int c])) := by
      intro r H3 R nr hR hr s3
      have hrP : r ≠ P := by
        intro e
        have hP := s3 _ _ h1
        rw [e, hP] at hr
        cases R with
        | nil => cases hr
        | cons a l => cases hr
      refine k _ _ ⟨r, s, R, S, c, ⟨upd_same, ?_, ?_, hR, hS, hS0⟩, nr, bs⟩ (Keep.at (Keep.of s3)) (Int.emod_nonneg _ (by omega)) (fun _ => Int.emod_lt_of_pos _ hmost) (fun z => absurd z (by omega))
      · rw [upd_ne hrP]
        exact hr
      · rw [upd_ne nps]
        exact s3 _ _ h3
    have hP2 := s2 _ _ h1
    refine ⟨pos_div hmost hm, ?_⟩
    refine ite2 (fun hd => ?_) (fun hd => ?_)
    · refine ⟨pos_div hmost hm, by show 1 ≤ sizeLine; decide, fun q3 hq3 => ?_⟩
      have e3 : (upd H2 q3 (.lst [.int (z.fdiv most)])) q3 = some (.lst [.int (z.fdiv most)]) := upd_same
      have s3 : Same H2 (upd H2 q3 (.lst [.int (z.fdiv most)])) := Same.new hq3
      have e4 := s3 _ _ e2
      generalize (upd H2 q3 (.lst [.int (z.fdiv most)])) = H3 at e3 s3 e4
      simp only [x_cat e3 e4 (by rw [List.length_map]; exact sl5 (by simp only [List.length_cons] at hG; simp only [List.length_cons, List.length_nil]; omega))]
      intro q4 hq4
      have e5 : (upd H3 q4 (.lst ([V.int (z.fdiv most)] ++ G'.map V.int))) q4 = some (.lst ((z.fdiv most :: G').map V.int)) := upd_same
      have s5 : Same H (upd H3 q4 (.lst ([V.int (z.fdiv most)] ++ G'.map V.int))) := Same.new' (s2.trans s3) hq4
      have n4 : ¬ B q4 := fun w => by
        obtain ⟨o, e⟩ := hB q4 w
        have e' := (s2.trans s3) q4 o e
        rw [hq4] at e'
        cases e'
      generalize (upd H3 q4 (.lst ([V.int (z.fdiv most)] ++ G'.map V.int))) = H5 at e5 s5
      simp only [x_seq, x_if, x_test, x_B, x_op, x_un, x_varS, x_var0, x_c, x_I0, x_I, x_U, x_bl, x_ret, x_next, x_asg, x_name, x_set0, x_setS, x_drop, x_cb, x_cons, x_nil, x_int1, x_abs1, x_max2, x_gcd, x_gsub, x_sl, x_part, x_nopart, x_int, x_call, x_lst, x_tup, x_not, x_and, x_or, x_andV, x_orV, x_notV, x_ifE, x_eqI, x_neI, x_eqB, x_neB, x_tbm, decide_eq_true_eq, List.append_nil, List.nil_append, List.cons_append, x_setL (s5 _ _ h1) ix0]
      exact ⟨hmost, fin q4 H5 (z.fdiv most :: G') n4 hG e5 s5⟩
    · simp only [x_seq, x_if, x_test, x_B, x_op, x_un, x_varS, x_var0, x_c, x_I0, x_I, x_U, x_bl, x_ret, x_next, x_asg, x_name, x_set0, x_setS, x_drop, x_cb, x_cons, x_nil, x_int1, x_abs1, x_max2, x_gcd, x_gsub, x_sl, x_part, x_nopart, x_int, x_call, x_lst, x_tup, x_not, x_and, x_or, x_andV, x_orV, x_notV, x_ifE, x_eqI, x_neI, x_eqB, x_neB, x_tbm, decide_eq_true_eq, List.append_nil, List.nil_append, List.cons_append, x_setL hP2 ix0]
      exact ⟨hmost, fin q2 H2 G' n2 (by simp only [List.length_cons] at hG; omega) e2 s2⟩
  · -- an int reckoned of the smalls
    have h4 : (upd H P (.lst [.ref g, .ref s, .int (c + 1)])) P = some (.lst [.ref g, .ref s, .int (c + 1)]) := upd_same
    have h5 : (upd H P (.lst [.ref g, .ref s, .int (c + 1)])) s = some (.lst (S.map V.int)) := by
      rw [upd_ne nps]
      exact h3
    have hp4 : PoolB B (upd H P (.lst [.ref g, .ref s, .int (c + 1)])) P := ⟨g, s, G, S, c + 1, ⟨h4, by rw [upd_ne npg]; exact h2, h5, hG, hS, hS0⟩, bg, bs⟩
    have k4 : Keep P H (upd H P (.lst [.ref g, .ref s, .int (c + 1)])) := Keep.at (Keep.refl _ _)
    have es : ([V.ref g, .ref s, .int c].set 2 (.int (c + 1))) = [V.ref g, .ref s, .int (c + 1)] := rfl
    have b1 : atI [V.ref g, .ref s, .int (c + 1)] 1 = some (.ref s) := rfl
    simp only [x_seq, x_if, x_test, x_B, x_op, x_un, x_varS, x_var0, x_c, x_I0, x_I, x_U, x_bl, x_ret, x_next, x_asg, x_name, x_set0, x_setS, x_drop, x_cb, x_cons, x_nil, x_int1, x_abs1, x_max2, x_gcd, x_gsub, x_sl, x_part, x_nopart, x_int, x_call, x_lst, x_tup, x_not, x_and, x_or, x_andV, x_orV, x_notV, x_ifE, x_eqI, x_neI, x_eqB, x_neB, x_tbm, decide_eq_true_eq, List.append_nil, List.nil_append, List.cons_append, x_ix h1 a2, x_setL h1 ix2, es]
    generalize (upd H P (.lst [.ref g, .ref s, .int (c + 1)])) = H4 at h4 h5 hp4 k4
    have hSl : (0 : Int) < (S.length : Int) := by
      cases S with
      | nil => exact absurd rfl hS0
      | cons a r => simp only [List.length_cons]; omega
    simp only [x_seq, x_if, x_test, x_B, x_op, x_un, x_varS, x_var0, x_c, x_I0, x_I, x_U, x_bl, x_ret, x_next, x_asg, x_name, x_set0, x_setS, x_drop, x_cb, x_cons, x_nil, x_int1, x_abs1, x_max2, x_gcd, x_gsub, x_sl, x_part, x_nopart, x_int, x_call, x_lst, x_tup, x_not, x_and, x_or, x_andV, x_orV, x_notV, x_ifE, x_eqI, x_neI, x_eqB, x_neB, x_tbm, decide_eq_true_eq, List.append_nil, List.nil_append, List.cons_append, x_ix h4 b1, x_lenA h5, List.length_map]
    refine ⟨small_div (by decide), hSl, ?_⟩
    obtain ⟨sd, hsd⟩ := atI_map (S := S) (i := (c.fdiv 4) % (S.length : Int)) (Int.emod_nonneg _ (by omega)) (Int.emod_lt_of_pos _ hSl)
    simp only [x_seq, x_if, x_test, x_B, x_op, x_un, x_varS, x_var0, x_c, x_I0, x_I, x_U, x_bl, x_ret, x_next, x_asg, x_name, x_set0, x_setS, x_drop, x_cb, x_cons, x_nil, x_int1, x_abs1, x_max2, x_gcd, x_gsub, x_sl, x_part, x_nopart, x_int, x_call, x_lst, x_tup, x_not, x_and, x_or, x_andV, x_orV, x_notV, x_ifE, x_eqI, x_neI, x_eqB, x_neB, x_tbm, decide_eq_true_eq, List.append_nil, List.nil_append, List.cons_append, x_ix h5 hsd]
    refine ⟨mul_lit (by decide), mul_lit (by decide), by decide, ?_⟩
    generalize (sd * 48271 + c * 69621 + 12345) = m0
    have hm0 : -(2 ^ 64) < m0 % 2147483647 ∧ m0 % 2147483647 < 2 ^ 64 := by omega
    refine ⟨mul_lit hm0, mul_lit (by decide), by decide, ?_⟩
    generalize (m0 % 2147483647 * (m0 % 2147483647) + c * 40692 + 7) = m1
    have hm1 : -(2 ^ 64) < m1 % 2147483399 ∧ m1 % 2147483399 < 2 ^ 64 := by omega
    refine ⟨mul_lit hm1, by decide, small_div (by decide), hmost, ?_⟩
    exact k _ _ hp4 k4 (Int.emod_nonneg _ (by omega)) (fun _ => Int.emod_lt_of_pos _ hmost) (fun z => absurd z (by omega))

/-- a new pool of the script -/
def spPoolB (K : PySem.W.Frag) : Sp := fun vs H Q _ => ∃ (a : Addr) (ns : List Int), vs = [.ref a] ∧ SqL K H a (ns.map V.int) ∧ ns.length ≤ 63 ∧ ∀ (P : Addr) (H' : Hp), PoolB (fun _ => False) H' P → Same H H' → Q (.ref P) H'
theorem pure_poolB {K : PySem.W.Frag} (vs : List V) (H : Hp) (Q : VK) (E : XK) (h : spPoolB K vs H Q E) : t_pool K { nx := fun _ H' => Q .non H', rt := Q } (start ["script", "greats", "smalls", "cell"] vs) H := by
  obtain ⟨a, ns, rfl, hS, hn, k⟩ := h
  show t_pool K _ [some (.ref a), none, none, none] H
  unfold t_pool
  simp only [x_seq, x_if, x_test, x_B, x_op, x_un, x_varS, x_var0, x_c, x_I0, x_I, x_U, x_bl, x_ret, x_next, x_asg, x_name, x_set0, x_setS, x_drop, x_cb, x_cons, x_nil, x_int1, x_abs1, x_max2, x_gcd, x_gsub, x_sl, x_part, x_nopart, x_int, x_call, x_lst, x_tup, x_not, x_and, x_or, x_andV, x_orV, x_notV, x_ifE, x_eqI, x_neI, x_eqB, x_neB, x_tbm, decide_eq_true_eq, List.append_nil, List.nil_append, List.cons_append]
  refine ⟨by decide, fun g hg => ⟨by decide, fun s hs => ?_⟩⟩
  have ngs : s ≠ g := fun e => by
    subst e
    rw [upd_same] at hs
    cases hs
  have s0 : Same H (upd (upd H g (.lst [])) s (.lst [])) := Same.new' (Same.new hg) hs
  have hs0 : H s = none := (Same.new hg).free hs
  refine ⟨_, rfl, a, rfl, ⟨_, s0.seq hS⟩, for_list (K := K) (a := a) (xs := ns.map V.int) (fun i σ H' => ∃ (G S : List Int) (cl : Option V), σ = [some (.ref a), some (.ref g), some (.ref s), cl] ∧ H' g = some (.lst (G.map V.int)) ∧ H' s = some (.lst (S.map V.int)) ∧ G.length ≤ i ∧ S.length ≤ i ∧ Same H H')
    ⟨[], [], none, rfl, by rw [upd_ne ngs.symm, upd_same]; rfl, by rw [upd_same]; rfl, Nat.le_refl _, Nat.le_refl _, s0⟩ (fun i σ H' _ ⟨_, _, _, _, _, _, _, _, s1⟩ => s1.seq hS) ?_ ?_⟩
  · rintro i y σ H' hi ⟨G, S, cl, rfl, h1, h2, l1, l2, s1⟩
    have hil : i < ns.length := by
      have := (List.getElem?_eq_some_iff.mp hi).1
      rwa [List.length_map] at this
    obtain ⟨z, rfl⟩ : ∃ z, y = V.int z := by
      rw [List.getElem?_map] at hi
      cases e : ns[i]? with
      | none => rw [e] at hi; cases hi
      | some z => rw [e] at hi; exact ⟨z, (Option.some.inj hi).symm⟩
    have ha : ∀ (l : List Int) (b : Int), l.map V.int ++ [V.int b] = (l ++ [b]).map V.int := fun l b => by rw [List.map_append]; rfl
    simp only [x_seq, x_if, x_test, x_B, x_op, x_un, x_varS, x_var0, x_c, x_I0, x_I, x_U, x_bl, x_ret, x_next, x_asg, x_name, x_set0, x_setS, x_drop, x_cb, x_cons, x_nil, x_int1, x_abs1, x_max2, x_gcd, x_gsub, x_sl, x_part, x_nopart, x_int, x_call, x_lst, x_tup, x_not, x_and, x_or, x_andV, x_orV, x_notV, x_ifE, x_eqI, x_neI, x_eqB, x_neB, x_tbm, decide_eq_true_eq, List.append_nil, List.nil_append, List.cons_append]
    refine ⟨⟨by decide, by decide, by decide⟩, ?_⟩
    refine ite2 (fun _ => ?_) (fun _ => ?_)
    · refine ⟨ty_lst h1, ?_⟩
      simp only [x_append h1 (by rw [List.length_map]; exact Nat.lt_of_le_of_lt l1 (Nat.lt_of_lt_of_le (show i < 1000 by omega) (by decide)))]
      refine ⟨G ++ [if z < 0 then -z else z], S, _, rfl, by rw [upd_same, ha], by rw [upd_ne ngs]; exact h2, by rw [List.length_append]; simp; omega, by omega, fun b o e => ?_⟩
      rw [upd_ne (ne_of_none e hg)]
      exact s1 b o e
    · refine ⟨ty_lst h2, ?_⟩
      simp only [x_append h2 (by rw [List.length_map]; exact Nat.lt_of_le_of_lt l2 (Nat.lt_of_lt_of_le (show i < 1000 by omega) (by decide)))]
      refine ⟨G, S ++ [if z < 0 then -z else z], _, rfl, by rw [upd_ne ngs.symm]; exact h1, by rw [upd_same, ha], by omega, by rw [List.length_append]; simp; omega, fun b o e => ?_⟩
      rw [upd_ne (ne_of_none e hs0)]
      exact s1 b o e
  · rintro σ H' ⟨G, S, cl, rfl, h1, h2, l1, l2, s1⟩
    rw [List.length_map] at l1 l2
    -- the pool's own list
    have fin : ∀ (H2 : Hp) (S2 : List Int), H2 g = some (.lst (G.map V.int)) → H2 s = some (.lst (S2.map V.int)) → Same H H2 → S2 ≠ [] → S2.length ≤ 64 → ∀ p, H2 p = none → Q (.ref p) (upd H2 p (.lst [.ref g, .ref s, .int 0])) := by
      intro H2 S2 e1 e2 s2 ne l p hp
      refine k p _ ⟨g, s, G, S2, 0, ⟨upd_same, ?_, ?_, by omega, l, ne⟩, fun z => z.elim, fun z => z.elim⟩ (Same.new' s2 hp)
      · rw [upd_ne (ne_of_none e1 hp)]
        exact e1
      · rw [upd_ne (ne_of_none e2 hp)]
        exact e2
    simp only [x_seq, x_if, x_test, x_B, x_op, x_un, x_varS, x_var0, x_c, x_I0, x_I, x_U, x_bl, x_ret, x_next, x_asg, x_name, x_set0, x_setS, x_drop, x_cb, x_cons, x_nil, x_int1, x_abs1, x_max2, x_gcd, x_gsub, x_sl, x_part, x_nopart, x_int, x_call, x_lst, x_tup, x_not, x_and, x_or, x_andV, x_orV, x_notV, x_ifE, x_eqI, x_neI, x_eqB, x_neB, x_tbm, decide_eq_true_eq, List.append_nil, List.nil_append, List.cons_append, x_lenA h2, x_lenA h1, List.length_map]
    refine ite2 (fun hz => ?_) (fun hz => ?_)
    · refine ⟨ty_lst h2, ?_⟩
      simp only [x_append h2 (by rw [List.length_map]; exact Nat.lt_of_le_of_lt l2 (Nat.lt_of_lt_of_le (show ns.length < 1000 by omega) (by decide)))]
      have hS0 : S = [] := by
        cases S with
        | nil => rfl
        | cons a r => simp only [List.length_cons] at hz; omega
      subst hS0
      refine ⟨(by show 3 ≤ sizeLine; decide), fin _ [(G.length : Int)] (by rw [upd_ne ngs.symm]; exact h1) (by rw [upd_same]; rfl) (fun b o e => ?_) (by simp) (by simp)⟩
      rw [upd_ne (ne_of_none e hs0)]
      exact s1 b o e
    · exact ⟨(by show 3 ≤ sizeLine; decide), fin _ S h1 h2 s1 (fun e => hz (by subst e; rfl)) (by omega)⟩

theorem PoolB.same {B : Addr → Prop} {H H' : Hp} {P : Addr} (h : PoolB B H P) (k : Same H H') : PoolB B H' P := by
  obtain ⟨g, s, G, S, c, ⟨h1, h2, h3, h4, h5, h6⟩, h7⟩ := h
  exact ⟨g, s, G, S, c, ⟨k _ _ h1, k _ _ h2, k _ _ h3, h4, h5, h6⟩, h7⟩
/-- one more list that is none of the pool's -/
theorem PoolB.more {B : Addr → Prop} {H : Hp} {P F : Addr} {o : HO} (h : PoolB B H P) (n : H F = none) : PoolB (fun b => B b ∨ b = F) (upd H F o) P := by
  obtain ⟨g, s, G, S, c, ⟨h1, h2, h3, h4, h5, h6⟩, bg, bs⟩ := h
  have k : Same H (upd H F o) := Same.new n
  refine ⟨g, s, G, S, c, ⟨k _ _ h1, k _ _ h2, k _ _ h3, h4, h5, h6⟩, ?_, ?_⟩
  · rintro (z | rfl)
    · exact bg z
    · rw [h2] at n
      cases n
  · rintro (z | rfl)
    · exact bs z
    · rw [h3] at n
      cases n
theorem PoolB.less {B B' : Addr → Prop} {H : Hp} {P : Addr} (h : PoolB B H P) (l : ∀ b, B' b → B b) : PoolB B' H P := by
  obtain ⟨g, s, G, S, c, h1, bg, bs⟩ := h
  exact ⟨g, s, G, S, c, h1, fun z => bg (l _ z), fun z => bs (l _ z)⟩
/-- a list of B is written -/
theorem PoolB.put {B : Addr → Prop} {H : Hp} {P F : Addr} {o : HO} (h : PoolB B H P) (b : B F) (n : F ≠ P) : PoolB B (upd H F o) P := by
  obtain ⟨g, s, G, S, c, ⟨h1, h2, h3, h4, h5, h6⟩, bg, bs⟩ := h
  refine ⟨g, s, G, S, c, ⟨?_, ?_, ?_, h4, h5, h6⟩, bg, bs⟩
  · rw [upd_ne (Ne.symm n)]; exact h1
  · have q : g ≠ F := fun e => bg (by rw [e]; exact b)
    rw [upd_ne q]
    exact h2
  · have q : s ≠ F := fun e => bs (by rw [e]; exact b)
    rw [upd_ne q]
    exact h3
theorem PoolB.there {B : Addr → Prop} {H : Hp} {P : Addr} (h : PoolB B H P) : ∃ xs, H P = some (.lst xs) := by
  obtain ⟨g, s, G, S, c, h1, _⟩ := h
  exact ⟨_, h1.p⟩
theorem tup_off {B : Addr → Prop} {H : Hp} {P o : Addr} {ys : List V} (h : PoolB B H P) (t : H o = some (.tup ys)) : o ≠ P := by
  obtain ⟨xs, e⟩ := h.there
  exact lst_tup e t
end SpX

set_option Elab.async false
set_option linter.all false
set_option maxRecDepth 100000
set_option maxHeartbeats 2000000
/-! A def whose first row is super().__init__('..') of an own exception over ValueError: its frame, that row, its promise. -/
namespace SpX
open PySem PySem.Spec PyProof.Rows L2

theorem rl_out {x : Str} : ∀ {l : List (Str × Value)}, (∀ v, (x, v) ∉ l) → l.lookup x = none := fun {l} h => by
  induction l with
  | nil => rfl
  | cons p r ih =>
    obtain ⟨n, v⟩ := p
    have hn : x ≠ n := fun e => h v (by rw [e]; exact List.mem_cons_self)
    rw [List.lookup_cons, show (x == n) = false from beq_eq_false_iff_ne.mpr hn]
    exact ih fun w hw => h w (List.mem_cons_of_mem _ hw)
theorem rl_get {x : Str} {v : Value} : ∀ {P : List Str} {vs : List Value} {i : Nat}, P.Nodup → P[i]? = some x → vs[i]? = some v → (P.zip vs).reverse.lookup x = some v
  | [], _, _, _, h, _ => by simp at h
  | _ :: _, [], _, _, _, h => by simp at h
  | p :: P, u :: vs, 0, nd, h1, h2 => by
    simp at h1 h2
    subst h1
    subst h2
    rw [List.zip_cons_cons, List.reverse_cons, List.lookup_append, rl_out fun v hv => (List.nodup_cons.mp nd).1 (List.of_mem_zip (List.mem_reverse.mp hv)).1]
    simp [List.lookup]
  | p :: P, u :: vs, i + 1, nd, h1, h2 => by
    rw [List.zip_cons_cons, List.reverse_cons, List.lookup_append, rl_get (i := i) (List.nodup_cons.mp nd).2 (by simpa using h1) (by simpa using h2)]
    rfl

structure SupScope (N P : List Str) (sc : Scope) : Prop where
  kind : sc.kind = .function
  co : sc.isCoroutine = false
  gen : sc.isGenerator = false
  nd : N.Nodup
  pre : N.take P.length = P
  par : ∀ x ∈ P, sc.names.lookup x = some .local
  nocell : ∀ y ∈ sc.names, y.2 ≠ .cell
  free : ∀ y ∈ sc.names, y.2 = .free → y.1 = "__class__"
  sup : sc.names.lookup ("super" : Str) = some .globalImplicit
  cls : sc.names.lookup ("__class__" : Str) = some .free

def cxSup (CX : CXT) (P : Program) (w : World) (K : PySem.W.Frag) (mg : Str → Option Value) (base : Heap) (N : List Str) (qual : Str) (scope : Scope) (f : Addr) (cd : Value) (cc : Addr) (A : Around) (outer : List Env) (s : Shared) (H : Hp) (E : XK) : Cx where
  prog := P
  w := w
  K := K
  mg := mg
  base := base
  A := A.deeper (PySem.W.ksEnv qual scope s.heap.objs.size f cd cc)
  N := N
  s_0 := s
  H_0 := H
  env := PySem.W.ksEnv qual scope s.heap.objs.size f cd cc
  outer := outer
  stack := PySem.W.ksEnv qual scope s.heap.objs.size f cd cc :: outer
  ex := []
  calm := true
  fn := fun x => x != "__class__"
  pn := []
  xe := fun e s' => wpAny (model P w) (A.deeper (PySem.W.ksEnv qual scope s.heap.objs.size f cd cc)) (leaving (PySem.W.ksEnv qual scope s.heap.objs.size f cd cc) e) (fun _ s'' => CX outer H s E e s'') (fun e' s'' => CX outer H s E e' s'') s'

section
variable {CX : CXT} {P : Program} {w : World} {K : PySem.W.Frag} {mg : Str → Option Value} {base : Heap} {N ps : List Str} {qual : Str} {scope : Scope} {f cc : Addr} {cd : Value} {A : Around} {outer : List Env} {s : Shared} {H : Hp} {E : XK} {us : List Value} {vs : List V}
theorem inv_sup {h1 : Heap} {tk : Nat} {cl : Value} {cld : Option Addr} {cv : Option Value} {csl : Array (Option Value)} (S : SupScope N ps scope) (hd : A.handled = none) (e0 : Env0 P w K mg base A outer s H) (hl : vs.length = ps.length) (r : Vals vs us)
    (hcell : K.lookup cc = some ⟨cl, cld, .cell cv, csl⟩) (ns : h1.Ns s.heap.objs.size (fun x => (ps.zip us).reverse.lookup x)) (hk : ∀ b o, s.heap.get? b = some o → h1.get? b = some o) :
    Inv (cxSup CX P w K mg base N qual scope f cd cc A outer s H E) [] (L2.start N vs) H { s with heap := h1, toks := tk } := by
  have hpl : ps.length ≤ N.length := by have := congrArg List.length S.pre; rw [List.length_take] at this; omega
  have noA : ∀ b : Addr, b ∉ (cxSup CX P w K mg base N qual scope f cd cc A outer s H E).ex := fun b z => absurd (show b ∈ ([] : List Addr) from z) (by simp)
  have one : ∀ y c, List.lookup y [(("__class__" : Str), cc)] = some c → y = "__class__" ∧ c = cc := fun y c h => by
    rw [List.lookup_cons] at h
    cases e : y == ("__class__" : Str) with
    | true =>
      rw [e] at h
      exact ⟨beq_iff_eq.mp e, (Option.some.inj h).symm⟩
    | false =>
      rw [e] at h
      cases h
  have cb := e0.mod.kin _ _ hcell
  refine ⟨⟨e0.mod, S.kind, rfl, rfl, Nat.le_refl _, fun y z c h1 h2 => ?_, fun y hy => ?_, fun y c hf h => ?_, fun _ => hd, Around.frames_deeper e0.frames, .inr ⟨rfl, rfl⟩, fun b z => absurd z (noA b), e0.bs, e0.bsz, fun b _ _ => noA b, fun b z => absurd z (noA b), e0.funs, e0.frf⟩,
    rfl, e0.bare, Un.kept hk, ⟨_, ns, fun i y v h1 h2 h3 => ?_⟩, fun y c h => ?_, e0.hok.fresh (Nat.le_refl _), fun y c h => ?_, fun p hp => absurd (show p ∈ ([] : List (Addr × Obj)) from hp) (by simp), e0.hok.kept hk, ?_⟩
  · rw [(one y c h1).1, (one z c h2).1]
  · have hy : scope.names.lookup y = some .cell ∨ scope.names.lookup y = some .free := hy
    rcases hy with hy | hy
    · exact absurd rfl (S.nocell _ (PySem.mem_of_lookup hy))
    · have := S.free _ (PySem.mem_of_lookup hy) rfl
      exact ⟨cc, by rw [show y = "__class__" from this]; rfl⟩
  · have hf : (y != ("__class__" : Str)) = true := hf
    rw [(one y c h).1] at hf
    exact absurd hf (by simp)
  · have hi : i < vs.length := by
      unfold L2.start at h2
      by_cases hi : i < vs.length
      · exact hi
      · rw [List.getElem?_append_right (by simpa using hi)] at h2
        rw [List.getElem?_replicate] at h2
        split at h2 <;> cases h2
    have ha : vs[i]? = some v := by
      unfold L2.start at h2
      rw [List.getElem?_append_left (by simpa using hi), List.getElem?_map] at h2
      cases e : vs[i]? with
      | none => rw [e] at h2; cases h2
      | some a => rw [e] at h2; cases h2; rfl
    obtain ⟨u, hu, rv⟩ := r.get ha
    have hp : ps[i]? = some y := by
      rw [← S.pre, List.getElem?_take_of_lt (by omega)]; exact h1
    have ndP : ps.Nodup := by rw [← S.pre]; exact S.nd.sublist (List.take_sublist _ _)
    exact ⟨u, rv, .inl ⟨S.par y (List.mem_of_getElem? hp), rl_get ndP hp hu⟩⟩
  · rw [(one y c h).2]
    exact ⟨cv, _, hk _ _ (e0.bs _ _ cb).1, rfl⟩
  · rw [(one y c h).2]
    exact (e0.bs _ _ cb).2
  · unfold L2.start
    show _ = N.length
    rw [List.length_append, List.length_map, List.length_replicate]
    omega
end

/-- super().__init__ bound to an exception, called -/
theorem call_mw {prog : Program} {w : World} {A : Around} {E : Value → Shared → Prop} {h : Heap} {g : Array GenState} {d : Drawn} {t : Nat} {os : OsState} {nm q : Str} {C N : Addr} {bs bm : List Value} {hdct : Bool} {sn : List Str} {sub : List Value} {ab : Bool} {col : Option Bool}
    {dd : Option Addr} {k0 k1 k2 k3 k5 : Option Value} {u e t0 : Addr} {rest : List Value} {Q : Value → Shared → Prop}
    (hC : h.get? C = some (excClassObj nm q C N bs bm hdct sn sub ab col dd k0 k1 k2 k3 k5 "ValueError.__new__")) (he : h.get? e = some (PySem.W.excObj C t0 none .none)) (hu : h.get? u = some (PySem.W.kxs_mw "ValueError.__init__" e)) (hrest : rest.length ≤ sizeLine)
    (hq : ∀ h' t1, (∀ b o, b ≠ e → h.get? b = some o → h'.get? b = some o) → h'.get? e = some (PySem.W.excObj C t1 none .none) → Q .none ⟨h', g, d, t, os⟩) :
    wpAny (model prog w) A (call (.ref u) rest) Q E ⟨h, g, d, t, os⟩ := by
  refine wpAny_call (codeAny_of_tree ?_)
  show wpAny _ A.in1 (callAny (.ref u) ⟨rest, []⟩) _ _ _
  simp only [callAny]
  refine wpAny_bind (wpAny_load hu ?_)
  simp only [PySem.W.kxs_mw, show (Value.type "method-wrapper" == Value.type "method" || Value.type "method-wrapper" == Value.type "builtin_function_or_method" || Value.type "method-wrapper" == Value.type "method-wrapper") = true by decide, if_true]
  refine PySem.W.KFB.if_so (by decide) ?_
  refine wpAny_bind (PySem.W.check_bound_init F.excBase_ValueError.toExcCallFacts hC he rfl ?_)
  refine wpAny_bind (wpAny_pure (wpAny_pure ?_))
  refine ⟨plainId_quiet F.excBase_ValueError.init.plain _, codeAny_builtin F.excBase_ValueError.initEntry ?_⟩
  exact PySem.W.exc_init_tree (cls := .ref C) (t0 := t0) (dv := none) (c2 := .none) (c3 := .none) (b4 := .bool false) he hrest fun h' k e' _ => hq h' _ k e'

/-- what the written part says of a class D whose __init__ asks super(), and of the class C of the object -/
structure SupC (prog : Program) (K : PySem.W.Frag) (mg : Str → Option Value) (C D : Addr) : Prop where
  cls : ∃ nm q N bs bm sn sub ab col dd k0 k1 k2 k3 k5, K.lookup C = some (excClassObj nm q C N bs bm true sn sub ab col dd k0 k1 k2 k3 k5 "ValueError.__new__") ∧ PySem.HandSPX.refsVE bm = true
  cD : ∃ cdD, PySem.W.clsIn K D = some cdD
  sub : PySem.W.mroIn K C (.ref D) = some true
  next : PySem.W.ks_superIn K C D "__init__" = some (some (.builtin "ValueError.__init__"))
  ve : PySem.W.subIn K (.ref C) (.type "ValueError") = some true
  any : PySem.W.nsIn K cStatics "thirdparty.any" = some none
  nosup : mg "super" = none
  top : (prog.main.scope.names.lookup ("super" : Str)).isSome = false
/-- of the code object and the cell of that __init__ -/
structure SupF (prog : Program) (K : PySem.W.Frag) (cda cc D : Addr) : Prop where
  code : ∃ cl d vs sl file tf, K.lookup cda = some ⟨cl, d, .fields vs, sl⟩ ∧ vs[2]? = some (.str file tf) ∧ ((prog.main.file : Str) == file) = true
  cell : ∃ cl d sl, K.lookup cc = some ⟨cl, d, .cell (some (.ref D)), sl⟩

theorem sup_row {X : Cx} {σ : L2.St} {H : Hp} {s : Shared} {body : List Stmt} {qual : Str} {scope : Scope} {L f cc cda C D a : Addr} {fd : FuncData} {ar : Arg} {oc : Value} {od : Option Addr} {osl : Array (Option Value)} {p0 p1 p2 p3 p4 p5 : Pos} {x : Str} {j : Nat} {Q : Flow → Shared → Prop} {E : Value → Shared → Prop}
    (he : X.env = PySem.W.ksEnv qual scope L f (.ref cda) cc) (hks : scope.names.lookup ("super" : Str) = some .globalImplicit) (hkc : scope.names.lookup ("__class__" : Str) = some .free) (hka : scope.names.lookup ar.arg = some .local)
    (lk : X.K.lookup f = some ⟨oc, od, .func fd, osl⟩) (hp : (fd.params.posonlyargs ++ fd.params.args).head? = some ar) (F : SupF X.prog X.K cda cc D) (T : SupC X.prog X.K X.mg C D) (I : Inv X [] σ H s) (hN : X.N[0]? = some ar.arg) (hσ : σ[0]? = some (some (.ref a))) (ea : H a = some (exo a C none))
    (h : ∀ s', Inv X [] σ H s' → Q .next s')
    (hs : swapsWith (.Call (.Attribute (.Call (.Name "super" p0) [] [] p1) "__init__" p2) [.Constant (.str x) j p3] [] p4) none p5.line X.env = pure false := by rfl)
    {pl : Sem Bool} (hev : eval (.Call (.Attribute (.Call (.Name "super" p0) [] [] p1) "__init__" p2) [.Constant (.str x) j p3] [] p4) X.env = (do
      let ov ← attributeBase (.Call (.Name "super" p0) [] [] p1) "__init__" X.env (eval (.Call (.Name "super" p0) [] [] p1) X.env)
      standAt p2.atName
      let (f, first) ← holding [ov] (getMethod ov "__init__" pl)
      callWith p4 f first (backTo p4 (starEach [.Constant (.str x) j p3] X.env)) []) := by rfl)
    (hst : starEach [Expr.Constant (.str x) j p3] X.env = (false, eval (.Constant (.str x) j p3) X.env) :: starEach [] X.env := by rfl) :
    PySem.wpAt (model X.prog X.w) X.A (.func body X.env) (exec (.Expr (.Call (.Attribute (.Call (.Name "super" p0) [] [] p1) "__init__" p2) [.Constant (.str x) j p3] [] p4) p5) X.env) Q E s := by
  obtain ⟨cl, dcl, vsC, slC, file, tf, hcode, hvs, hfile⟩ := F.code
  obtain ⟨cl2, dcl2, sl2, hcell⟩ := F.cell
  obtain ⟨nm, qn, NC, bs, bm, sn, sub, ab, col, dd, k0, k1, k2, k3, k5, hC, hbm⟩ := T.cls
  obtain ⟨cdD, hD⟩ := T.cD
  obtain ⟨mb, hb1, hb2⟩ := I.mod.blt
  obtain ⟨m, hm, hl⟩ := I.loc
  obtain ⟨u0, ru0, look⟩ := hl 0 ar.arg (.ref a) hN hσ (.inl (by rw [he]; exact hka))
  obtain rfl : u0 = Value.ref a := ru0
  have hself : m ar.arg = some (.ref a) := by
    rcases look with ⟨_, e⟩ | ⟨k, c, hc, _⟩
    · exact e
    · rcases k with k | k
      · rw [he] at k
        exact absurd (hka.symm.trans k) (by simp)
      · rw [he] at k
        exact absurd (hka.symm.trans k) (by simp)
  obtain ⟨t1, hobj⟩ := exo_at I.hok ea
  have KI := I.kIn
  have kk : X.env.scope.kind = .function := I.ok.kind
  have hks' : X.env.kindOf "super" = some .globalImplicit := by rw [he]; exact hks
  have hkc' : X.env.kindOf "__class__" = some .free := by rw [he]; exact hkc
  have hka' : X.env.kindOf ar.arg = some .local := by rw [he]; exact hka
  have hcl : X.env.cells.lookup ("__class__" : Str) = some cc := by rw [he]; rfl
  obtain ⟨oD, hD1, hD2⟩ : ∃ oD, s.heap.get? D = some oD ∧ oD.data = .cls cdD := by
    unfold PySem.W.clsIn at hD
    split at hD
    · rename_i c d cd' sl ho
      cases hD
      exact ⟨_, KI _ _ ho, rfl⟩
    · cases hD
  refine PySem.ks_wpAt_Expr_any (PySem.ks_wpAt_MethodCall (PySem.ks_wpAt_super_base (env := X.env) hks' hkc' (by decide) (by rw [he]) (KI _ _ lk) rfl hp (by rw [he]) (KI _ _ hcode) rfl hvs hfile T.top ?_) hev) I.quiet hs
  refine PySem.W.ks_loadName_global kk hks' (Calls.loadGlobal_builtin (by rw [I.ok.glob]; exact I.mod.glob.keeps I.bk) T.nosup (by rw [I.ok.blt]; exact hb1.keeps I.bk) ((hb2 _ (by decide)).trans (by decide +kernel : bootBuiltins "super" = some (.type "super"))) ⟨rfl, ?_⟩)
  refine wpAny_loadName_free kk hkc' hcl ⟨_, KI _ _ hcell, rfl⟩ ?_
  refine wpAny_loadName_local kk hka' hm hself ?_
  refine PySem.ks_wpAny_isType_cls hD1 hD2 ⟨rfl, ?_⟩
  obtain ⟨hp0, g, d, tk, os⟩ := s
  refine PySem.ks_wpAny_call_super hD1 hD2 hobj rfl (fun c e => by cases e) (PySem.W.looks_mroIn KI T.sub) (fun h1 e1 k1 => ?_)
  have I1 := I.kept (h' := h1) (t' := tk) k1
  have hnx := T.next
  unfold PySem.W.ks_superIn at hnx
  cases hc : PySem.W.clsIn X.K C with
  | none =>
    rw [hc] at hnx
    cases hnx
  | some cd =>
    rw [hc] at hnx
    have K1 := I1.kIn
    have hin : PySem.W.InstAt h1 a (PySem.W.excObj C t1 none .none) C none := ⟨k1 _ _ hobj, rfl, rfl, trivial⟩
    refine PySem.W.kxs_getMethod PySem.W.kxs_ValueError e1 (PySem.W.looks_opaque K1 T.any) (l₀ := cd.mro) ?_ rfl K1 hnx (hin.type.andThen (PySem.W.looks_subIn K1 T.ve)) (PySem.W.ks_ne K1 hin hc) (by decide) ?_
    · exact fun A Q E s k q => wpAny_bind ((PySem.W.looks_clsIn K1 hc) A _ E s k (wpAny_pure q))
    have hso : h1.objs.size = h1.objs.size := rfl
    -- the bound __init__ stands behind
    have ku : ∀ b o, h1.get? b = some o → (h1.push (PySem.W.kxs_mw "ValueError.__init__" a)).get? b = some o := fun b o e => Heap.get?_push_of_some _ e
    have hu : (h1.push (PySem.W.kxs_mw "ValueError.__init__" a)).get? h1.objs.size = some (PySem.W.kxs_mw "ValueError.__init__" a) := Heap.get?_push_at rfl rfl
    have I2 := I1.kept (h' := h1.push (PySem.W.kxs_mw "ValueError.__init__" a)) (t' := tk + 1) ku
    have I3 : Inv X [(h1.objs.size, PySem.W.kxs_mw "ValueError.__init__" a)] σ H ⟨h1.push (PySem.W.kxs_mw "ValueError.__init__" a), g, d, tk + 1, os⟩ := by
      refine I2.pins_of fun p hp => ?_
      rw [List.mem_singleton.mp hp]
      refine ⟨hu, I1.hok.fresh (Nat.le_refl _), ?_, ?_, fun v z => by cases z⟩
      · exact fun z => absurd I1.lt (by rw [← z]; exact Nat.lt_irrefl _)
      · exact I1.nofs (Nat.le_refl _)
    refine PySem.W.kxs_callWith (i := "ValueError.__init__") (x := a) ?_ ?_
    · rw [hst]
      rfl
    · rw [hst]
      refine Calls.evalArgs_plain ?_
      have pa := (pa_cons (X := X) (e := .Constant (.str x) j p3) (es := []) pe_str pa_nil hst)
      have pr := pa.run p4 [(h1.objs.size, PySem.W.kxs_mw "ValueError.__init__" a)] _ σ H (fun vs H2 => vs = [.str x] ∧ H2 = H) I3 ⟨rfl, rfl⟩
      rw [hst] at pr
      refine thn pr fun us s4 got => ?_
      obtain ⟨vs, H4, I4, r4, e4, e5⟩ := got
      subst e4
      subst e5
      obtain ⟨hu4, _⟩ := I4.pin _ (List.mem_append_right _ (List.mem_singleton.mpr rfl))
      refine ⟨hu4, ?_⟩
      have hlen : us.length ≤ sizeLine := by
        rw [← r4.length]
        show 1 ≤ sizeLine
        decide
      obtain ⟨t4, ho4⟩ := exo_at I4.hok ea
      obtain ⟨h4, g4, d4, tk4, os4⟩ := s4
      refine call_mw (I4.kIn _ _ hC) ho4 hu4 hlen fun h' t' k e' => ?_
      have J := I4.write (t' := tk4) (x := a) (e := a) (o := exo a C none) (by rw [ea]; exact True.intro) (.inl rfl) k ⟨_, e'⟩ (exo_ok e')
      have eu : upd H4 a (exo a C none) = H4 := by
        funext b
        by_cases hb : b = a
        · rw [hb, upd_same, ea]
        · rw [upd_ne hb]
      rw [eu] at J
      exact h _ (J.pins_of fun p hp => absurd hp (by simp))

/-- THE RULE: an own exception's __init__ whose first row is super().__init__('..') -/
theorem fn_sup {CX : CXT} {P : Program} {w : World} {K : PySem.W.Frag} {mg : Str → Option Value} {base : Heap} {k : Nat} {f cc cda D : Addr} {name qual : Str} {params : Arguments} {body rest : List Stmt} {scope : Scope} {kV doc pm ct oc : Value} {an od : Option Addr}
    {osl : Array (Option Value)} {N ps : List Str} {sp : Sp} {ar : Arg} {p0 p1 p2 p3 p4 p5 : Pos} {x : Str} {j : Nat}
    (lk : K.lookup f = some ⟨oc, od, .func (PySem.W.ksFn name qual params body scope .none kV doc pm an (.ref cda) ct cc), osl⟩) (hcd : PySem.W.codeIn K (.ref cda) qual = true) (S : SupScope N ps scope) (F : SupF P K cda cc D)
    (hb : body = .Expr (.Call (.Attribute (.Call (.Name "super" p0) [] [] p1) "__init__" p2) [.Constant (.str x) j p3] [] p4) p5 :: rest) (hp : (params.posonlyargs ++ params.args).head? = some ar) (hN : N[0]? = some ar.arg) (hpa : ar.arg ∈ ps)
    (len : ∀ vs H Q E, sp vs H Q E → vs.length = ps.length)
    (hev : ∀ L : Addr, ∃ pl : Sem Bool, eval (.Call (.Attribute (.Call (.Name "super" p0) [] [] p1) "__init__" p2) [.Constant (.str x) j p3] [] p4) (PySem.W.ksEnv qual scope L f (.ref cda) cc) = (do
      let ov ← attributeBase (.Call (.Name "super" p0) [] [] p1) "__init__" (PySem.W.ksEnv qual scope L f (.ref cda) cc) (eval (.Call (.Name "super" p0) [] [] p1) (PySem.W.ksEnv qual scope L f (.ref cda) cc))
      standAt p2.atName
      let (g, first) ← holding [ov] (getMethod ov "__init__" pl)
      callWith p4 g first (backTo p4 (starEach [.Constant (.str x) j p3] (PySem.W.ksEnv qual scope L f (.ref cda) cc))) []))
    (hbody : ∀ (A : Around) (outer : List Env) (s : Shared) (H : Hp) (vs : List V) (Q : VK) (E : XK), Room k (A.deeper (PySem.W.ksEnv qual scope s.heap.objs.size f (.ref cda) cc)) → sp vs H Q E →
      ∃ a C, vs[0]? = some (.ref a) ∧ H a = some (exo a C none) ∧ SupC P K mg C D ∧ ∃ t, PSs (cxSup CX P w K mg base N qual scope f (.ref cda) cc A outer s H E) rest t ∧ t { nx := fun _ H' => Q .non H', rt := Q } (L2.start N vs) H) :
    FnOk P w K mg base CX (k + 1) f (PySem.W.ksFn name qual params body scope .none kV doc pm an (.ref cda) ct cc) ps sp := by
  refine ⟨len, fun A outer s H args us vs Q E hr e0 hbd r hsp => ?_⟩
  have hl := len _ _ _ _ hsp
  have KX : K.In s.heap := e0.mod.kin.keeps fun b o e => (e0.bs b o e).1
  have lim : s.heap.NoLimit := e0.mod.nolimit.keeps fun b o e => (e0.bs b o e).1
  obtain ⟨cl2, dcl2, sl2, hcell⟩ := F.cell
  refine PySem.ks_codeAny_call_defAt (fd := PySem.W.ksFn name qual params body scope .none kV doc pm an (.ref cda) ct cc) (body := body) hr.depth (KX _ _ lk) rfl lim (PySem.W.codeRec_of KX hcd) rfl hbd S.nocell (fun y hy => S.par _ (List.of_mem_zip hy).1) (fun h0 ns keep => ?_) S.co S.gen S.kind
  obtain ⟨a, C, hv0, ea, T, t, ht, hq⟩ := hbody A outer s H vs Q E (hr.deeper _) hsp
  have I : Inv (cxSup CX P w K mg base N qual scope f (.ref cda) cc A outer s H E) [] (L2.start N vs) H { s with heap := h0, toks := s.toks + (ps.zip us).length } := inv_sup S hr.hd e0 hl r hcell ns keep
  subst hb
  obtain ⟨pl, hpl⟩ := hev s.heap.objs.size
  refine PySem.ks_wpAt_execs_cons (sup_row (hev := hpl) (X := cxSup CX P w K mg base N qual scope f (.ref cda) cc A outer s H E) rfl S.sup S.cls (S.par _ hpa) lk hp F T I hN ?_ ea (fun s' J => ?_))
  · unfold L2.start
    have hlt : 0 < vs.length := (List.getElem?_eq_some_iff.mp hv0).1
    rw [List.getElem?_append_left (by simpa using hlt), List.getElem?_map, hv0]
    rfl
  · refine wpAt_of_wpAny ?_
    refine wpAny_mono (ht.run [] s' (L2.start N vs) H _ J hq) (fun fl s2 hs => ?_) fun e s2 hs => hs
    have fin : ∀ {σ' : L2.St} {H' : Hp} {v : V} {u : Value}, Inv (cxSup CX P w K mg base N qual scope f (.ref cda) cc A outer s H E) [] σ' H' s2 → RelV v u → Q v H' → CE outer P w H s Q u s2 :=
      fun {σ' H' v u} J rv q => ⟨v, H', J.os, J.bare, J.base, J.hok, rv, q⟩
    cases fl with
    | ret u =>
      obtain ⟨v, σ', H', J, rv, q⟩ := hs
      exact fin J rv q
    | next =>
      obtain ⟨σ', H', J, q⟩ := hs
      exact fin (v := V.non) (u := Value.none) J rfl q
    | brk =>
      obtain ⟨_, _, _, q⟩ := hs
      exact False.elim q
    | cont =>
      obtain ⟨_, _, _, q⟩ := hs
      exact False.elim q
end SpX

set_option Elab.async false
set_option linter.all false
set_option maxRecDepth 100000
set_option maxHeartbeats 2000000
/-! Static methods, str(instance), text * int. -/
namespace SpX
open PySem PySem.Spec PyProof.Rows L2
/-- C.m is a static method: its record at p, its def at g -/
structure SMet (K : PySem.W.Frag) (C : Addr) (mc : Value) (m : Str) (p g : Addr) : Prop where
  at_ : PySem.W.findCls K (.ref C) mc m = some (.get (.builtin "staticmethod.__get__") (.ref p) .none (.ref C))
  rc : ∃ rest, PySem.W.recIn K p "staticmethod" = some (.ref g :: rest)
  kp : PySem.W.keepIn K (.ref g) = true
section
variable {X : Cx} {CX : CXT} {k : Nat} {g C p : Addr} {mc : Value} {fd : FuncData} {ps : List Str} {sp : Sp} {E : L2.St → XK} {x m : Str} {p1 pos apos : Pos} {e : Expr} {es : List Expr} {t : TA}
/-- C.m(..), m static -/
def tSM (sp : Sp) (E : L2.St → XK) (t : TA) : TE := fun σ H Q => t σ H fun vs H1 => sp vs H1 Q (E σ)
theorem pe_sm {pl : Sem Bool} (hg : Gl X x) (hm : X.mg x = some (.ref C)) (r : ClX.CRead X.K C mc) (c : SMet X.K C mc m p g) (F : FnOk X.prog X.w X.K X.mg X.base CX k g fd ps sp) (room : Room k X.A) (hb : Binds X.K fd ps []) (hx : ∀ σ, PassesAt CX X σ (E σ)) (ha : PA X (e :: es) t)
    (hdb : (x == ("__debug__" : Str)) = false := by decide) (hst : starEach (e :: es) X.env = (false, eval e X.env) :: starEach es X.env := by rfl) (hpl : (backTo pos (starEach es X.env)).any (·.1) = false := by rfl)
    (ht : eval (.Call (.Attribute (.Name x p1) m apos) (e :: es) [] pos) X.env = (do
      let ov ← eval (.Name x p1) X.env
      standAt apos.atName
      let (f, first) ← holding [ov] (getMethod ov m pl)
      callWith pos f first (backTo pos (starEach (e :: es) X.env)) (backToKw pos (keywordEach [] X.env))) := by rfl) :
    PE X (.Call (.Attribute (.Name x p1) m apos) (e :: es) [] pos) (tSM sp E t) := by
  refine ⟨fun pins s σ H Q I h => ?_⟩
  refine PySem.W.methodCall_KW (pl := pl) (ld_glob I hg hm ?_ hdb) ht
  obtain ⟨rest, hp⟩ := c.rc
  refine PySem.W.method_cls I.kIn r.ga ?_
  refine PySem.W.cls_bind I.kIn r.rd c.at_ ?_
  refine wpAny_call (PySem.W.sm_get (s := { s with toks := s.toks + 1 }) I.kIn hp (PySem.W.handed_on rfl ?_))
  refine PySem.W.callWith_K (first := []) (h₀ := X.base) I.ok.mod.kin c.kp (thn (ha.run pos pins _ σ H _ (I.tok _) h) fun us s2 got2 => ?_) hst hpl
  obtain ⟨vs, H2, inv2, rv, q2⟩ := got2
  exact ⟨inv2.kIn, run_fnS F room hb (hx σ) inv2 rv q2⟩
/-- what passes on serves at every σ -/
theorem passesAt_of {CX : CXT} {E : XK} (hx : Passes CX X E) (σ : L2.St) : PassesAt CX X σ E := fun pins H s e s' I c => hx pins σ H s e s' I c
end
section
variable {X : Cx} {CX : CXT} {k : Nat} {f C : Addr} {fd : FuncData} {ps : List Str} {sp : Sp} {E : XK}
/-- str(instance) -/
def rOwnStr (C : Addr) (sp : Sp) (E : XK) : List V → Hp → VK → Prop := fun xs H Q => ∃ a dx fs, xs = [.ref a] ∧ H a = some (.ins C dx fs) ∧ sp [.ref a] H (fun v H' => ∃ y : Str, v = .str y ∧ Q v H') E
theorem call_strOwn (hs : PySem.W.findIn X.K (.ref C) "__str__" = some (some (.ref f))) (hf : PySem.W.isFn X.K (.ref f) = true) (F : FnOk X.prog X.w X.K X.mg X.base CX k f fd ps sp) (hr : Room (k + 2) X.A) (hb : Binds X.K fd ps []) (hx : Passes CX X E) :
    CallR X (.type "str") (rOwnStr C sp E) := by
  intro pins s σ H xs us Q I r h
  obtain ⟨a, dx, fs, rfl, ha, hsp⟩ := h
  obtain ⟨u, rfl, rx⟩ := vals1 r
  cases rx
  obtain ⟨mA, J, _⟩ := ins_get I.hok ha
  obtain ⟨od, J, _⟩ := J.look
  have sb : Sub X k X.A.in1.in1 := Sub.in1 (Sub.in1 (⟨hr, rfl⟩ : Sub X (k + 2) X.A))
  refine PySem.W.kso_call sb.room.units0 I.kIn J hs hf ?_
  refine thn (run_fnA (us := [.ref a]) (vs := [.ref a]) sb F hb hx I (.cons rfl .nil) hsp) fun u s' q => ?_
  obtain ⟨v, H', I', rv, y, rfl, q⟩ := q
  obtain ⟨t, rfl⟩ := rv
  exact ⟨.str y, H', I', ⟨t, rfl⟩, q⟩
def rMulS : R2 := fun x y H Q => ∃ a n, x = .str a ∧ y = .int n ∧ MulOk a n ∧ Q (.str (Txt.mul a n)) H
theorem op_mulS : OpR X (binaryOp .Mult) rMulS := by
  intro pins s σ H x y v u Q I rx ry h
  obtain ⟨a, n, rfl, rfl, ok, q⟩ := h
  obtain ⟨t, rfl⟩ := rx
  obtain ⟨t', rfl⟩ := ry
  exact SB.mul ok fun t' k => ⟨.str _, H, I.tok _, ⟨_, rfl⟩, q⟩
end
/-- isinstance of the caught exception with a dict, its class being the one at D -/
def rCaughtD (K : PySem.W.Frag) (D a : Addr) (cls : Value) (d : Option Addr) : List V → Hp → VK → Prop := fun xs H Q => cls = .ref D ∧ (∃ (dd : Addr) (fs : List (Str × V)), d = some dd ∧ H dd = some (.xd fs)) ∧ rIsE K D a xs H Q
theorem call_caughtD {X : Cx} {a D : Addr} {oe : Obj} {cls : Value} {d : Option Addr} {pn : List (Addr × Obj)} (C : ExcC X.K D) (hz : Zc cls d oe) (hf : ∃ vs, oe.data = .fields vs) : CallR (X.suite a ((a, oe) :: pn)) (.builtin "isinstance") (rCaughtD X.K D a cls d) := by
  intro pins s σ H xs us Q I r h
  obtain ⟨rfl, ⟨dd, fs, rfl, ed⟩, h⟩ := h
  obtain ⟨c, cv, b, rfl, hcv, e, q⟩ := h
  cases r with
  | cons rx rr =>
    cases rr with
    | cons rt rr =>
      cases rr
      cases rx
      have ec := hcv _ rt
      subst ec
      obtain ⟨hget, _⟩ := I.pin (a, oe) (List.mem_append.mpr (.inl List.mem_cons_self))
      obtain ⟨vs, hv⟩ := hf
      have hx : ObjOk X.prog X.w H s.heap dd (.xd fs) := I.hok dd _ ed
      obtain ⟨mA, hns, hr⟩ := hx
      obtain ⟨od, ho, hl⟩ := lookIn_ns hns
      have J : PySem.W.InstAt s.heap a oe D (some od) := ⟨hget, hz.1, by unfold PySem.W.notCls; rw [hv] <;> rfl, by rw [hz.2]; exact ho⟩
      have hcl : (PySem.W.clsIn X.K D).isSome = true := by
        obtain ⟨cd, hc, _⟩ := PySem.W.any_some C.hd
        rw [hc]
        rfl
      exact PySem.W.kia_one (PySem.W.kitx_exc (od := some od) (ox := oe) hcl C.hg C.hk C.hs C.ha C.hn C.ht C.hm) I.kIn J e (fun z => nomatch z) fun tk => ⟨.bl b, H, I.kept (t' := tk) fun _ _ z => z, rfl, q⟩
section
variable {D : Ends} {σ : L2.St} {H : Hp} {Q : VK} {a b : Str} {i : Int} {tt : TT} {ts : TS} {to te : TE} {r : V → List V → Hp → VK → Prop}
theorem x_eqS : rEq (.str a) (.str b) H Q = Q (.bl (decide (a = b))) H := by
  unfold rEq scal
  simp
theorem x_neS : rNe (.str a) (.str b) H Q = Q (.bl (!decide (a = b))) H := by
  unfold rNe scal
  simp
theorem x_m0 : tM0 r to σ H Q = to σ H (fun x H1 => (∃ a, x = .str a) ∧ r x [] H1 Q) := rfl
theorem x_m1 : tM1 r to te σ H Q = to σ H (fun x H1 => (∃ a, x = .str a) ∧ te σ H1 fun y H2 => r x [y] H2 Q) := rfl
theorem x_isStr {P : Prop} : ((∃ b : Str, V.str a = .str b) ∧ P) = P := by simp
theorem x_SM {sp : Sp} {E : L2.St → XK} {t : TA} : tSM sp E t σ H Q = t σ H (fun vs H1 => sp vs H1 Q (E σ)) := rfl
def rAddT : R2 := fun x y H Q => ∃ i j : Str, x = .str i ∧ y = .str j ∧ i.length + j.length ≤ sizeLine ∧ Q (.str (i ++ j)) H
theorem op_addT {X : Cx} : OpR X (binaryOp .Add) rAddT := op_add_str
theorem x_addT : rAddT (.str a) (.str b) H Q = (a.length + b.length ≤ sizeLine ∧ Q (.str (a ++ b)) H) := propext ⟨fun ⟨_, _, e1, e2, h, q⟩ => by cases e1; cases e2; exact ⟨h, q⟩, fun ⟨h, q⟩ => ⟨_, _, rfl, rfl, h, q⟩⟩
theorem x_slS {lo hi : Option Int} : rSlS (.str a) lo hi H Q = (a.length ≤ sizeLine ∧ Q (.str (cutS a lo hi)) H) := propext ⟨fun ⟨_, e1, h, q⟩ => by cases e1; exact ⟨h, q⟩, fun ⟨h, q⟩ => ⟨_, rfl, h, q⟩⟩
def rLenT : List V → Hp → VK → Prop := fun xs H Q => ∃ z : Str, xs = [.str z] ∧ z.length ≤ sizeLine ∧ Q (.int z.length) H
theorem call_lenT {X : Cx} : CallR X (.builtin "len") rLenT := call_len_str
theorem x_lenS : rLenT [.str a] H Q = (a.length ≤ sizeLine ∧ Q (.int a.length) H) := propext ⟨fun ⟨_, e1, h, q⟩ => by cases e1; exact ⟨h, q⟩, fun ⟨h, q⟩ => ⟨_, rfl, h, q⟩⟩
def rStrI : List V → Hp → VK → Prop := fun xs H Q => ∃ i : Int, xs = [.int i] ∧ i.natAbs.log2 < 1920 ∧ Q (.str (toString i)) H
theorem call_strI {X : Cx} : CallR X (.type "str") rStrI := call_str_int
theorem x_strI : rStrI [.int i] H Q = (i.natAbs.log2 < 1920 ∧ Q (.str (toString i)) H) := propext ⟨fun ⟨_, e1, h, q⟩ => by cases e1; exact ⟨h, q⟩, fun ⟨h, q⟩ => ⟨_, rfl, h, q⟩⟩
def rIntT : List V → Hp → VK → Prop := fun xs H Q => ∃ (a : Str) (n : Int), xs = [.str a] ∧ PySem.intText? a = some n ∧ a.length ≤ 640 ∧ Q (.int n) H
theorem call_intT {X : Cx} : CallR X (.type "int") rIntT := call_int_str
theorem x_intT {n : Int} (h : PySem.intText? a = some n) (hl : a.length ≤ 640) : rIntT [.str a] H Q = Q (.int n) H := propext ⟨fun ⟨_, _, e1, e2, _, q⟩ => by cases e1; rw [h] at e2; cases e2; exact q, fun q => ⟨_, _, rfl, h, hl, q⟩⟩
theorem x_mulS {n : Int} : rMulS (.str a) (.int n) H Q = (MulOk a n ∧ Q (.str (Txt.mul a n)) H) := propext ⟨fun ⟨_, _, e1, e2, h, q⟩ => by cases e1; cases e2; exact ⟨h, q⟩, fun ⟨h, q⟩ => ⟨_, _, rfl, rfl, h, q⟩⟩
def rStartT : V → List V → Hp → VK → Prop := fun x xs H Q => ∃ a b : Str, x = .str a ∧ xs = [.str b] ∧ Q (.bl (Txt.startswith a b)) H
def rFindT : V → List V → Hp → VK → Prop := fun x xs H Q => ∃ a b : Str, x = .str a ∧ xs = [.str b] ∧ Q (.int (Txt.find a b)) H
def rPreT : V → List V → Hp → VK → Prop := fun x xs H Q => ∃ a b : Str, x = .str a ∧ xs = [.str b] ∧ a.length ≤ sizeLine ∧ Q (.str (Txt.removeprefix a b)) H
def rLstT : V → List V → Hp → VK → Prop := fun x xs H Q => ∃ a b : Str, x = .str a ∧ xs = [.str b] ∧ a.length ≤ sizeLine ∧ Q (.str (Txt.lstripChars a b)) H
def rZfT : V → List V → Hp → VK → Prop := fun x xs H Q => ∃ (a : Str) (i : Int), x = .str a ∧ xs = [.int i] ∧ PadOk i = true ∧ Q (.str (Txt.zfill a i)) H
def rAscT : V → List V → Hp → VK → Prop := fun x xs H Q => ∃ a : Str, x = .str a ∧ xs = [] ∧ True ∧ Q (.bl (Txt.isascii a)) H
def rDigT : V → List V → Hp → VK → Prop := fun x xs H Q => ∃ a : Str, x = .str a ∧ xs = [] ∧ True ∧ Q (.bl (Txt.isdigit a)) H
def rParT : V → List V → Hp → VK → Prop := fun x xs H Q => ∃ a b : Str, x = .str a ∧ xs = [.str b] ∧ (b.length == 0) = false ∧ a.length ≤ sizeLine ∧ ∀ p, H p = none → Q (.ref p) (upd H p (.tup [.str (Txt.partition a b).1, .str (Txt.partition a b).2.1, .str (Txt.partition a b).2.2]))
def rSplT : V → List V → Hp → VK → Prop := fun x xs H Q => ∃ a b : Str, x = .str a ∧ xs = [.str b] ∧ (b.length == 0) = false ∧ a.length + 2 ≤ sizeLine ∧ ∀ p, H p = none → Q (.ref p) (upd H p (.lst ((Txt.split a b).map V.str)))
theorem x_startT : rStartT (.str a) [.str b] H Q = Q (.bl (Txt.startswith a b)) H := propext ⟨fun ⟨_, _, e1, e2, q⟩ => by cases e1; cases e2; exact q, fun q => ⟨_, _, rfl, rfl, q⟩⟩
theorem x_findT : rFindT (.str a) [.str b] H Q = Q (.int (Txt.find a b)) H := propext ⟨fun ⟨_, _, e1, e2, q⟩ => by cases e1; cases e2; exact q, fun q => ⟨_, _, rfl, rfl, q⟩⟩
theorem x_preT : rPreT (.str a) [.str b] H Q = (a.length ≤ sizeLine ∧ Q (.str (Txt.removeprefix a b)) H) := propext ⟨fun ⟨_, _, e1, e2, h, q⟩ => by cases e1; cases e2; exact ⟨h, q⟩, fun ⟨h, q⟩ => ⟨_, _, rfl, rfl, h, q⟩⟩
theorem x_lstT : rLstT (.str a) [.str b] H Q = (a.length ≤ sizeLine ∧ Q (.str (Txt.lstripChars a b)) H) := propext ⟨fun ⟨_, _, e1, e2, h, q⟩ => by cases e1; cases e2; exact ⟨h, q⟩, fun ⟨h, q⟩ => ⟨_, _, rfl, rfl, h, q⟩⟩
theorem x_zfT (h : PadOk i = true) : rZfT (.str a) [.int i] H Q = Q (.str (Txt.zfill a i)) H := propext ⟨fun ⟨_, _, e1, e2, _, q⟩ => by cases e1; cases e2; exact q, fun q => ⟨_, _, rfl, rfl, h, q⟩⟩
theorem x_ascT : rAscT (.str a) [] H Q = Q (.bl (Txt.isascii a)) H := propext ⟨fun ⟨_, e1, _, _, q⟩ => by cases e1; exact q, fun q => ⟨_, rfl, rfl, trivial, q⟩⟩
theorem x_digT : rDigT (.str a) [] H Q = Q (.bl (Txt.isdigit a)) H := propext ⟨fun ⟨_, e1, _, _, q⟩ => by cases e1; exact q, fun q => ⟨_, rfl, rfl, trivial, q⟩⟩
theorem x_parT (h : (b.length == 0) = false) : rParT (.str a) [.str b] H Q = (a.length ≤ sizeLine ∧ ∀ p, H p = none → Q (.ref p) (upd H p (.tup [.str (Txt.partition a b).1, .str (Txt.partition a b).2.1, .str (Txt.partition a b).2.2]))) := propext ⟨fun ⟨_, _, e1, e2, _, h, q⟩ => by cases e1; cases e2; exact ⟨h, q⟩, fun ⟨h', q⟩ => ⟨_, _, rfl, rfl, h, h', q⟩⟩
theorem x_splT (h : (b.length == 0) = false) : rSplT (.str a) [.str b] H Q = (a.length + 2 ≤ sizeLine ∧ ∀ p, H p = none → Q (.ref p) (upd H p (.lst ((Txt.split a b).map V.str)))) := propext ⟨fun ⟨_, _, e1, e2, _, h, q⟩ => by cases e1; cases e2; exact ⟨h, q⟩, fun ⟨h', q⟩ => ⟨_, _, rfl, rfl, h, h', q⟩⟩
end
section
variable {X : Cx}
theorem mt_startT : MtR X "str.startswith" rStartT := mt_startswith
theorem mt_findT : MtR X "str.find" rFindT := mt_find
theorem mt_preT : MtR X "str.removeprefix" rPreT := mt_removeprefix
theorem mt_lstT : MtR X "str.lstrip" rLstT := mt_lstripChars
theorem mt_zfT : MtR X "str.zfill" rZfT := mt_zfill
theorem mt_ascT : MtR X "str.isascii" rAscT := mt_isascii
theorem mt_digT : MtR X "str.isdigit" rDigT := mt_isdigit
theorem mt_parT : MtR X "str.partition" rParT := mt_partition
theorem mt_splT : MtR X "str.split" rSplT := mt_split
end
/-! ### f-strings, join, truth, divmod, constants -/
def tJn (ts : List TE) : TE := fun σ H Q => tJs ts Str.empty σ H fun out H1 => Q (.str out) H1
def rJoinT (K : PySem.W.Frag) : V → List V → Hp → VK → Prop := fun x xs H Q => ∃ (a : Str) (p : Addr) (ys : List Str), x = .str a ∧ xs = [.ref p] ∧ (SqL K H p (ys.map V.str) ∨ SqT K H p (ys.map V.str)) ∧ (ys.map (·.length)).sum + ys.length * a.length ≤ 16777216 ∧ Q (.str (Txt.join a ys)) H
theorem mt_joinT {X : Cx} : MtR X "str.join" (rJoinT X.K) := mt_join
def tTruK (K : PySem.W.Frag) (ta : TE) : TT := fun σ H Q => ta σ H fun x H' => ∃ k, TruV K x H' k ∧ Q k H'
def rDivW : List V → Hp → VK → Prop := fun xs H Q => ∃ i j, xs = [.int i, .int j] ∧ CDivP i j ∧ ∀ p, H p = none → Q (.ref p) (upd H p (.tup [.int (i / j), .int (i % j)]))
theorem pe_gc {X : Cx} {x : Str} {v : V} {pos : Pos} (hg : Gl X x) (h : ∃ u, X.mg x = some u ∧ RelV v u) (hd : (x == ("__debug__" : Str)) = false := by decide) : PE X (.Name x pos) (tC v) := by
  obtain ⟨u, hm, r⟩ := h
  exact pe_glob hg hm r hd
section
variable {σ : L2.St} {H : Hp} {Q : VK} {te : TE} {ts : List TE} {i j : Int} {a y : Str}
theorem x_jn : tJn ts σ H Q = tJs ts Str.empty σ H (fun out H1 => Q (.str out) H1) := rfl
theorem x_js0 {acc : Str} {R : Str → Hp → Prop} : tJs [] acc σ H R = R acc H := rfl
theorem x_js1 {acc : Str} {R : Str → Hp → Prop} : tJs (te :: ts) acc σ H R = te σ H (fun x H1 => ∃ y : Str, x = .str y ∧ (acc ++ y).length ≤ sizeLine ∧ tJs ts (acc ++ y) σ H1 R) := rfl
theorem x_isS {P : Str → Prop} : (∃ y : Str, V.str a = .str y ∧ P y) = P a := by simp
theorem x_fmt : tFmt te σ H Q = te σ H (fun x H1 => (∃ y : Str, x = .str y ∧ y.length ≤ sizeLine ∧ Q (.str y) H1) ∨ ∃ i : Int, x = .int i ∧ i.natAbs.log2 < 1920 ∧ Q (.str (toString i)) H1) := rfl
theorem x_fmtS {R : Str → Prop} : ((∃ z : Str, V.str y = .str z ∧ z.length ≤ sizeLine ∧ R z) ∨ ∃ i : Int, V.str y = .int i ∧ i.natAbs.log2 < 1920 ∧ R (toString i)) = (y.length ≤ sizeLine ∧ R y) := by simp
theorem x_divW : rDivW [.int i, .int j] H Q = (CDivP i j ∧ ∀ p, H p = none → Q (.ref p) (upd H p (.tup [.int (i / j), .int (i % j)]))) := propext ⟨fun ⟨_, _, e1, h, q⟩ => by cases e1; exact ⟨h, q⟩, fun ⟨h, q⟩ => ⟨_, _, rfl, h, q⟩⟩
theorem x_truK {K : PySem.W.Frag} {R : Bool → Hp → Prop} : tTruK K te σ H R = te σ H (fun x H' => ∃ k, TruV K x H' k ∧ R k H') := rfl
theorem x_truS {K : PySem.W.Frag} {R : Bool → Prop} : (∃ k, TruV K (.str y) H k ∧ R k) = (y.length ≤ sizeLine ∧ R ((y.length : Int) != 0)) := propext ⟨fun ⟨k, ⟨h1, h2⟩, q⟩ => ⟨h1, by rw [← h2]; exact q⟩, fun ⟨h1, q⟩ => ⟨_, ⟨h1, rfl⟩, q⟩⟩
end
/-! ### an own error that is made of a text -/
/-- class D's own __init__: super().__init__('..'), then self.text = text -/
def spBT (P : Program) (K : PySem.W.Frag) (mg : Str → Option Value) (D : Addr) : Sp := fun vs H Q _ => ∃ (a C : Addr) (v : V), vs = [.ref a, v] ∧ H a = some (exo a C none) ∧ SupC P K mg C D ∧ OexC K C ∧ PySem.W.findIn K (.ref C) "text" = some none ∧
  ∀ dx, H dx = none → dx ≠ a → Q .non (upd (upd H dx (exd dx [("text", v)])) a (exo a C (some dx)))
def t_bt (K : PySem.W.Frag) : TS := tOst K "text" (tVar 0) (tVar 1)
theorem pure_bt {P : Program} {K : PySem.W.Frag} {mg : Str → Option Value} {D : Addr} (vs : List V) (H : Hp) (Q : VK) (E : XK) (h : spBT P K mg D vs H Q E) :
    ∃ a C, vs[0]? = some (.ref a) ∧ H a = some (exo a C none) ∧ SupC P K mg C D ∧ t_bt K { nx := fun _ H' => Q .non H', rt := Q } (L2.start ["self", "text"] vs) H := by
  obtain ⟨a, C, v, rfl, ea, sc, oc, hno, k⟩ := h
  refine ⟨a, C, rfl, ea, sc, ?_⟩
  show t_bt K _ [some (.ref a), some v] H
  unfold t_bt tOst
  simp only [x_varS, x_var0]
  exact ⟨a, C, rfl, oc, hno, .inl ⟨ea, k⟩⟩
/-- raise C(e), C's own __init__ being that of D -/
def rTail (P : Program) (K : PySem.W.Frag) (mg : Str → Option Value) (D C : Addr) (W : XK) : V → Hp → Prop := fun v H1 => [v].length ≤ 1000 ∧ ∀ a, H1 a = none → spBT P K mg D (.ref a :: ([v] ++ [])) (upd H1 a (exo a C none))
  (fun v H2 => v = .non ∧ ∃ (d : Addr) (fs : List (Str × V)), H2 a = some (exo a C (some d)) ∧ H2 d = some (exd d fs) ∧ H1 d = none ∧ W (.ref C) (some d) (upd (del H2 a) d (.xd fs))) (fun _ _ _ => False)
def tRaiseT (P : Program) (K : PySem.W.Frag) (mg : Str → Option Value) (D C : Addr) (W : WX) (ta : TE) : TS := fun _ σ H => ta σ H fun v H1 => rTail P K mg D C (fun cls d H' => W cls d σ H') v H1
theorem x_raiseT {P : Program} {K : PySem.W.Frag} {mg : Str → Option Value} {D C : Addr} {W : WX} {ta : TE} {DD : Ends} {σ : L2.St} {H : Hp} : tRaiseT P K mg D C W ta DD σ H = ta σ H (fun v H1 => rTail P K mg D C (fun cls d H' => W cls d σ H') v H1) := rfl
/-- what the text says of the class C, whose __init__ is D's -/
structure TxtE (P : Program) (K : PySem.W.Frag) (mg : Str → Option Value) (D C fI : Addr) : Prop where
  ox : OexC K C
  ic : PySem.W.findIn K (.ref C) "__init__" = some (some (.ref fI))
  sc : SupC P K mg C D
  nt : PySem.W.findIn K (.ref C) "text" = some none
theorem tail_of {P : Program} {K : PySem.W.Frag} {mg : Str → Option Value} {D C fI : Addr} {W : XK} {v : V} {H1 : Hp} (T : TxtE P K mg D C fI) (k : ∀ d, H1 d = none → W (.ref C) (some d) (upd H1 d (.xd [("text", v)]))) : rTail P K mg D C W v H1 := by
  refine ⟨by simp, fun a ha => ⟨a, C, v, rfl, upd_same, T.sc, T.ox, T.nt, fun dx hdx hne => ⟨rfl, dx, _, upd_same, by rw [upd_ne hne, upd_same], ?_, ?_⟩⟩⟩
  · rw [upd_ne hne] at hdx
    exact hdx
  · have hd : H1 dx = none := by
      rw [upd_ne hne] at hdx
      exact hdx
    have e : upd (del (upd (upd (upd H1 a (exo a C none)) dx (exd dx [("text", v)])) a (exo a C (some dx))) a) dx (.xd [("text", v)]) = upd H1 dx (.xd [("text", v)]) := by
      funext b
      by_cases h1 : b = dx
      · rw [h1, upd_same, upd_same]
      · rw [upd_ne h1, upd_ne h1]
        by_cases h2 : b = a
        · rw [h2, del_same, ha]
        · rw [del_ne h2, upd_ne h2, upd_ne h1, upd_ne h2]
    rw [e]
    exact k dx hd
theorem ps_raiseT {X : Cx} {W : WX} {k : Nat} {x : Str} {C D fI : Addr} {fd : FuncData} {ps : List Str} {e : Expr} {te : TE} {p pos pos' : Pos} (hc : X.calm = true) (tk : Takes X W) (T : TxtE X.prog X.K X.mg D C fI) (tI : PySem.W.typeIn X.K (.ref fI) = some (.type "function"))
    (F : FnOk X.prog X.w X.K X.mg X.base CX0 k fI fd ps (spBT X.prog X.K X.mg D)) (hr : Room (k + 1) X.A) (hb : Binds X.K fd ps []) (hg : Gl X x) (hm : X.mg x = some (.ref C)) (he : PE X e te)
    (hdb : (x == ("__debug__" : Str)) = false := by decide) (hst : starEach [e] X.env = (false, eval e X.env) :: starEach [] X.env := by rfl) (hpl : (backTo pos (starEach [] X.env)).any (·.1) = false := by rfl) :
    PS X (.Raise (some (.Call (.Name x p) [e] [] pos)) none pos') (tRaiseT X.prog X.K X.mg D C W te) :=
  ps_raise hc tk (pmk_oex (dvs := []) (ds := []) T.ox T.ic tI F hr hb .nil pass0 hg hm (pa_cons he pa_nil hst) hdb hst hpl)
end SpX

set_option Elab.async false
set_option linter.all false
/-! == of lists with any texts in them. -/
namespace SpX
open PySem PySem.Spec L2
def rEqP (K : PySem.W.Frag) : R2 := fun x y H Q => ∃ d e, Dp K H x d ∧ Dp K H y e ∧ PyData.plain d = true ∧ PyData.plain e = true ∧ d.depth ≤ 64 ∧ Q (.bl (PyData.eqv d e)) H
theorem op_eqP {X : Cx} (hu : X.A.units + 64 < cLine) : OpR X (compareOp .Eq) (rEqP X.K) := by
  intro pins s σ H x y v u Q I rx ry h
  obtain ⟨d, e, hd, he, sd, se, l, q⟩ := h
  obtain ⟨as, r1⟩ := Dp.reads I d x v hd rx
  obtain ⟨bs, r2⟩ := Dp.reads I e y u he ry
  exact SeqAt.eq_plain r1 r2 sd se (by omega) ⟨.bl _, H, I, rfl, q⟩
theorem pl5 {a b c d : Bool} {e : Str} : PyData.plain (.list [.bool a, .bool b, .bool c, .bool d, .str e]) = true := rfl
theorem dp5 {a b c d : Bool} {e : Str} : PyData.depth (.list [.bool a, .bool b, .bool c, .bool d, .str e]) ≤ 64 := by
  simp [PyData.depth, PyData.depthAll]
end SpX

set_option Elab.async false
set_option linter.all false
set_option maxRecDepth 100000
set_option maxHeartbeats 2000000
/-! Texts of numbers, as lists of code points. -/
namespace SpX
open PySem PySem.Spec NumText
abbrev numD (n : Nat) : List Nat := TL.numL n
theorem num_lt {n : Nat} (h : n < 10) : numD n = [48 + n] := TL.numL_lt h
theorem num_step {n : Nat} (h : 10 ≤ n) : numD n = numD (n / 10) ++ [48 + n % 10] := TL.numL_step h
theorem num_ne (n : Nat) : numD n ≠ [] := TL.numL_ne n
theorem num_dig (n : Nat) : AllDigits (numD n) := TL.numL_digits n
theorem num_val (n : Nat) : digitsVal (numD n) = n := TL.numL_val n
theorem num_len {n k : Nat} (hk : 0 < k) (h : n < 10 ^ k) : (numD n).length ≤ k := TL.numL_len hk h
/-- digits without a zero ahead -/
structure Canon (x : List Nat) : Prop where
  dig : AllDigits x
  ne : x ≠ []
  lead : 1 < x.length → x.head? ≠ some 48
theorem snoc_rec {P : List Nat → Prop} (n0 : P []) (n1 : ∀ l a, P l → P (l ++ [a])) (l : List Nat) : P l := by
  have h : ∀ k : List Nat, P k.reverse := fun k => by
    induction k with
    | nil => exact n0
    | cons a k ih =>
      rw [List.reverse_cons]
      exact n1 _ _ ih
  have e := h l.reverse
  rwa [List.reverse_reverse] at e
theorem digitsVal_snoc (x : List Nat) (c : Nat) : digitsVal (x ++ [c]) = digitsVal x * 10 + (c - 48) := by
  unfold digitsVal
  rw [List.foldl_append]
  rfl
theorem digitsVal_append (x y : List Nat) : digitsVal (x ++ y) = digitsVal x * 10 ^ y.length + digitsVal y := by
  refine snoc_rec (P := fun y => digitsVal (x ++ y) = digitsVal x * 10 ^ y.length + digitsVal y) (by simp [digitsVal]) (fun y c ih => ?_) y
  rw [← List.append_assoc, digitsVal_snoc, digitsVal_snoc, ih, List.length_append, List.length_singleton, Nat.pow_succ, Nat.add_mul, Nat.mul_assoc]
  omega
theorem digitsVal_lt {x : List Nat} : AllDigits x → digitsVal x < 10 ^ x.length := by
  refine snoc_rec (P := fun x => AllDigits x → digitsVal x < 10 ^ x.length) (fun _ => by decide) (fun y c ih h => ?_) x
  have h1 := ih fun d hd => h d (List.mem_append_left _ hd)
  have h2 := h c (List.mem_append_right _ (List.mem_singleton.mpr rfl))
  rw [digitsVal_snoc, List.length_append, List.length_singleton, Nat.pow_succ]
  omega
theorem digitsVal_pos {x : List Nat} (h : AllDigits x) (hne : x ≠ []) (hl : x.head? ≠ some 48) : 1 ≤ digitsVal x := by
  cases x with
  | nil => exact absurd rfl hne
  | cons c r =>
    have hc := h.head
    have : c ≠ 48 := fun e => hl (by rw [e]; rfl)
    have e : digitsVal ([c] ++ r) = digitsVal [c] * 10 ^ r.length + digitsVal r := digitsVal_append [c] r
    have e1 : digitsVal [c] = c - 48 := by simp [digitsVal]
    have hp : 0 < 10 ^ r.length := Nat.pow_pos (by decide)
    show 1 ≤ digitsVal ([c] ++ r)
    rw [e, e1]
    have : 1 * 1 ≤ (c - 48) * 10 ^ r.length := Nat.mul_le_mul (by omega) hp
    omega
/-- digits without a zero ahead are the number's own -/
theorem canon_num {x : List Nat} : Canon x → numD (digitsVal x) = x := by
  refine snoc_rec (P := fun x => Canon x → numD (digitsVal x) = x) (fun h => absurd rfl h.ne) (fun y c ih h => ?_) x
  have hc := h.dig c (List.mem_append_right _ (List.mem_singleton.mpr rfl))
  rw [digitsVal_snoc]
  by_cases hy : y = []
  · subst hy
    have e1 : digitsVal [] = 0 := rfl
    rw [e1, Nat.zero_mul, Nat.zero_add, num_lt (by omega), List.nil_append]
    congr 1
    omega
  · have dy : AllDigits y := fun d hd => h.dig d (List.mem_append_left _ hd)
    have hh : (y ++ [c]).head? = y.head? := by
      cases y with
      | nil => exact absurd rfl hy
      | cons a r => rfl
    have hlen : 1 < (y ++ [c]).length := by
      rw [List.length_append, List.length_singleton]
      have := List.length_pos_iff.mpr hy
      omega
    have hne := h.lead hlen
    rw [hh] at hne
    have p := digitsVal_pos dy hy hne
    rw [num_step (by omega)]
    have e1 : (digitsVal y * 10 + (c - 48)) / 10 = digitsVal y := by omega
    have e2 : (digitsVal y * 10 + (c - 48)) % 10 = c - 48 := by omega
    rw [e1, e2, ih ⟨dy, hy, fun _ => hne⟩]
    congr 2
    omega
theorem num_canon (n : Nat) : Canon (numD n) := by
  refine ⟨TL.numL_digits n, num_ne n, ?_⟩
  induction n using Nat.strongRecOn with
  | _ n ih =>
    intro hl
    by_cases h : n < 10
    · rw [num_lt h] at hl
      exact absurd hl (by simp)
    · rw [num_step (n := n) (by omega)]
      have hne := num_ne (n / 10)
      have hh : (numD (n / 10) ++ [48 + n % 10]).head? = (numD (n / 10)).head? := by
        cases e : numD (n / 10) with
        | nil => exact absurd e hne
        | cons a r => rfl
      rw [hh]
      by_cases h2 : n / 10 < 10
      · rw [num_lt h2]
        intro e
        have := Option.some.inj e
        omega
      · have := ih (n / 10) (by omega)
        refine this ?_
        rw [num_step (n := n / 10) (by omega), List.length_append, List.length_singleton]
        have := List.length_pos_iff.mpr (num_ne (n / 10 / 10))
        omega
theorem num_head {n : Nat} (h : 1 ≤ n) : (numD n).head? ≠ some 48 := by
  by_cases hl : 1 < (numD n).length
  · exact (num_canon n).lead hl
  · have h9 : n < 10 := by
      have h1 := digitsVal_lt (num_dig n)
      rw [num_val] at h1
      have h2 : (numD n).length ≤ 1 := by omega
      have h3 : 10 ^ (numD n).length ≤ 10 ^ 1 := Nat.pow_le_pow_right (by decide) h2
      omega
    rw [num_lt h9]
    intro e
    have := Option.some.inj e
    omega
/-- a number with more digits behind: q * 10 ^ k + r, r written in k digits -/
theorem num_join {q k : Nat} {r : List Nat} (hq : 1 ≤ q) (hr : AllDigits r) (hk : r.length = k) : numD (q * 10 ^ k + digitsVal r) = numD q ++ r := by
  have hc : Canon (numD q ++ r) := by
    refine ⟨fun c hc => ?_, ?_, fun _ => ?_⟩
    · rcases List.mem_append.mp hc with h | h
      · exact TL.numL_digits q c h
      · exact hr c h
    · intro e
      exact num_ne q (List.append_eq_nil_iff.mp e).1
    · have hh : (numD q ++ r).head? = (numD q).head? := by
        cases e : numD q with
        | nil => exact absurd e (num_ne q)
        | cons a t => rfl
      rw [hh]
      exact num_head hq
  have e := canon_num hc
  rw [digitsVal_append, num_val q, hk] at e
  exact e
theorem zeros_val (m : Nat) (x : List Nat) : digitsVal (List.replicate m 48 ++ x) = digitsVal x := by
  have e : ∀ m, digitsVal (List.replicate m 48) = 0 := fun m => by
    induction m with
    | zero => rfl
    | succ m ih => rw [List.replicate_succ', digitsVal_snoc, ih]
  rw [digitsVal_append, e, Nat.zero_mul, Nat.zero_add]
theorem zeros_dig {m : Nat} {x : List Nat} (h : AllDigits x) : AllDigits (List.replicate m 48 ++ x) := fun c hc => by
  rcases List.mem_append.mp hc with h1 | h1
  · rw [(List.mem_replicate.mp h1).2]
    omega
  · exact h c h1
/-- the low k digits, zeros ahead -/
def padD (k n : Nat) : List Nat := List.replicate (k - (numD n).length) 48 ++ numD n
theorem padD_len {k n : Nat} (hk : 0 < k) (h : n < 10 ^ k) : (padD k n).length = k := by
  have := num_len hk h
  unfold padD
  rw [List.length_append, List.length_replicate]
  omega
theorem padD_val (k n : Nat) : digitsVal (padD k n) = n := by
  unfold padD
  rw [zeros_val]
  exact TL.numL_val n
theorem padD_dig (k n : Nat) : AllDigits (padD k n) := zeros_dig (TL.numL_digits n)
theorem num_pad {q k r : Nat} (hq : 1 ≤ q) (hk : 0 < k) (hr : r < 10 ^ k) : numD (q * 10 ^ k + r) = numD q ++ padD k r := by
  have e := num_join hq (padD_dig k r) (padD_len hk hr)
  rwa [padD_val] at e
theorem drop_zeros {m : Nat} {x : List Nat} (h : x.head? ≠ some 48) : (List.replicate m 48 ++ x).dropWhile (· == 48) = x := by
  induction m with
  | zero =>
    cases x with
    | nil => rfl
    | cons a r =>
      have : a ≠ 48 := fun e => h (by rw [e]; rfl)
      show (a :: r).dropWhile _ = _
      rw [List.dropWhile_cons, if_neg (by simpa using this)]
  | succ m ih =>
    rw [List.replicate_succ, List.cons_append, List.dropWhile_cons, if_pos (by decide)]
    exact ih
/-! ### the written form of a number, and the two ways to read it -/
/-- the text of t / b -/
def written (t b : Int) : List Nat := (if t < 0 then [45] else []) ++ numD t.natAbs ++ (if b = 1 then [] else 47 :: numD b.natAbs)
/-- up to the first sign 47, and what stands behind it -/
def part47 : List Nat → List Nat × Option (List Nat)
  | [] => ([], none)
  | c :: r => if c = 47 then ([], some r) else ((c :: (part47 r).1), (part47 r).2)
theorem part47_free {x : List Nat} (h : 47 ∉ x) : part47 x = (x, none) := by
  induction x with
  | nil => rfl
  | cons c r ih =>
    have hc : c ≠ 47 := fun e => h (by rw [e]; exact List.mem_cons_self)
    have hr : 47 ∉ r := fun e => h (List.mem_cons_of_mem _ e)
    unfold part47
    rw [if_neg hc, ih hr]
theorem part47_at {x y : List Nat} (h : 47 ∉ x) : part47 (x ++ 47 :: y) = (x, some y) := by
  induction x with
  | nil => rfl
  | cons c r ih =>
    have hc : c ≠ 47 := fun e => h (by rw [e]; exact List.mem_cons_self)
    have hr : 47 ∉ r := fun e => h (List.mem_cons_of_mem _ e)
    show part47 (c :: (r ++ 47 :: y)) = _
    unfold part47
    rw [if_neg hc, ih hr]
theorem part47_back (x : List Nat) : x = (part47 x).1 ++ (match (part47 x).2 with | none => [] | some y => 47 :: y) ∧ 47 ∉ (part47 x).1 := by
  induction x with
  | nil => exact ⟨rfl, by simp [part47]⟩
  | cons c r ih =>
    unfold part47
    by_cases h : c = 47
    · rw [if_pos h]
      exact ⟨by rw [h]; rfl, by simp⟩
    · rw [if_neg h]
      refine ⟨?_, ?_⟩
      · show c :: r = c :: ((part47 r).1 ++ _)
        rw [← ih.1]
      · intro hm
        rcases List.mem_cons.mp hm with e | e
        · exact h e.symm
        · exact ih.2 e
/-- a group of at most 60 digits without a zero ahead -/
def Group (x : List Nat) : Prop := Canon x ∧ x.length ≤ 60
theorem group_num {x : List Nat} (h : Group x) : numD (digitsVal x) = x := canon_num h.1
/-- the texts that are numbers: t / b in lowest terms, its parts of at most 60 digits -/
def IsNum (l : List Nat) (t b : Int) : Prop := l = written t b ∧ 0 < b ∧ Nat.gcd t.natAbs b.natAbs = 1 ∧ (numD t.natAbs).length ≤ 60 ∧ (numD b.natAbs).length ≤ 60
end SpX

set_option Elab.async false
set_option linter.all false
set_option maxRecDepth 100000
set_option maxHeartbeats 2000000
/-! What the methods of texts give, as lists of code points. -/
namespace SpX
open PySem PySem.Spec NumText L2
open TL (tl)
theorem tl_slash : tl "/" = [47] := by decide +kernel
theorem tl_minus : tl "-" = [45] := by decide +kernel
theorem tl_zero : tl "0" = [48] := by decide +kernel
theorem tl_empty : tl Str.empty = [] := rfl
theorem tl_len (x : Str) : x.length = (tl x).length := TL.len_tl x
theorem str_eq {x y : Str} (h : tl x = tl y) : x = y := TL.ext_tl h
theorem dec_str (x y : Str) : decide (x = y) = decide (tl x = tl y) := by
  by_cases h : x = y
  · rw [h]
    simp
  · have : tl x ≠ tl y := fun e => h (str_eq e)
    rw [decide_eq_false h, decide_eq_false this]
/-! ### a minus ahead -/
theorem subAt0 (x y : Str) : PySem.Builtin.Str.subAt x y 0 = ((tl x).take (tl y).length == tl y) := by
  rw [StrLaws.subAt_eq, List.drop_zero, tl_len y]
def neg? (l : List Nat) : Bool := l.head? == some 45
def body (l : List Nat) : List Nat := if neg? l = true then l.tail else l
theorem sub_minus (x : Str) : PySem.Builtin.Str.subAt x "-" 0 = neg? (tl x) := by
  rw [subAt0, tl_minus]
  unfold neg?
  cases tl x with
  | nil => rfl
  | cons c r =>
    show ((c :: r).take 1 == [45]) = _
    rw [List.take_succ_cons, List.take_zero, List.head?_cons]
    by_cases h : c = 45
    · rw [h] <;> rfl
    · have e1 : ([c] == [45]) = false := by simp [h]
      have e2 : (some c == some 45) = false := by simp [h]
      rw [e1, e2]
theorem startswith_minus (x : Str) : Txt.startswith x "-" = neg? (tl x) := by
  unfold Txt.startswith
  rw [sub_minus]
  cases h : neg? (tl x) with
  | false => rw [Bool.and_false]
  | true =>
    rw [Bool.and_true]
    have hl : ("-" : Str).length = 1 := by decide +kernel
    rw [hl, tl_len x]
    unfold neg? at h
    cases e : tl x with
    | nil => rw [e] at h; cases h
    | cons c r => simp
theorem removeprefix_minus (x : Str) : tl (Txt.removeprefix x "-") = body (tl x) := by
  unfold Txt.removeprefix body
  rw [sub_minus]
  cases h : neg? (tl x) with
  | false => rfl
  | true =>
    have hl : ("-" : Str).length = 1 := by decide +kernel
    rw [if_pos rfl, if_pos rfl]
    have e : tl (PySem.Builtin.Str.strSub x 1 x.length) = (tl x).tail := by
      rw [TL.tl_strSub_end, List.drop_one]
    show tl (if (x.length - ("-" : Str).length == x.length) = true then x else PySem.Builtin.Str.strSub x ("-" : Str).length x.length) = _
    rw [hl]
    have : (x.length - 1 == x.length) = false := by
      have : 0 < x.length := by
        rw [tl_len x]
        cases e' : tl x with
        | nil => rw [e'] at h; cases h
        | cons c r => simp
      simp
      omega
    rw [this, if_neg (by decide)]
    exact e
/-! ### parts at the first slash -/
theorem par47 (l acc : List Nat) : TL.par [47] acc l = (match part47 l with | (a, some b) => some (acc ++ a, b) | (_, none) => none) := by
  induction l generalizing acc with
  | nil => rfl
  | cons c r ih =>
    by_cases h : c = 47
    · subst h
      have hp : TL.pre [47] (47 :: r) = true := TL.pre_self [47] r
      rw [TL.par_hit hp]
      unfold part47
      simp
    · rw [TL.par_miss (TL.pre_of_head [] r h), ih]
      have e : part47 (c :: r) = (c :: (part47 r).1, (part47 r).2) := by
        conv => lhs; unfold part47
        rw [if_neg h]
      rw [e]
      cases h2 : part47 r with
      | mk a o =>
        cases o with
        | none => rfl
        | some b => simp
theorem spl47 (l acc : List Nat) : TL.spl [47] 0 acc l = (match part47 l with | (a, some b) => (acc ++ a) :: TL.spl [47] 0 [] b | (a, none) => [acc ++ a]) := by
  induction l generalizing acc with
  | nil =>
    rw [TL.spl_nil]
    show [acc] = [acc ++ []]
    rw [List.append_nil]
  | cons c r ih =>
    by_cases h : c = 47
    · subst h
      have hp : TL.pre [47] (47 :: r) = true := TL.pre_self [47] r
      rw [TL.spl_hit hp]
      unfold part47
      simp
    · rw [TL.spl_miss (TL.pre_of_head [] r h), ih]
      have e : part47 (c :: r) = (c :: (part47 r).1, (part47 r).2) := by
        conv => lhs; unfold part47
        rw [if_neg h]
      rw [e]
      cases h2 : part47 r with
      | mk a o =>
        cases o with
        | none => simp
        | some b => simp
theorem partition_slash (x : Str) : (match part47 (tl x) with
    | (a, some b) => tl (Txt.partition x "/").1 = a ∧ (Txt.partition x "/").2.1 = "/" ∧ tl (Txt.partition x "/").2.2 = b
    | (_, none) => Txt.partition x "/" = (x, Str.empty, Str.empty)) := by
  have hp := TL.partition_par x "/" (by rw [tl_slash]; simp)
  rw [tl_slash, par47] at hp
  cases h : part47 (tl x) with
  | mk a o =>
    rw [h] at hp
    cases o with
    | none => exact hp
    | some b =>
      dsimp only at hp ⊢
      rw [hp]
      exact ⟨by simp [TL.tl], rfl, by simp [TL.tl]⟩
theorem split_slash (x : Str) : (Txt.split x "/").map tl = TL.spl [47] 0 [] (tl x) := by
  have h := TL.split_spl x "/" (by rw [tl_slash]; simp) (TL.kind_ok (by decide +kernel))
  rw [tl_slash] at h
  exact h
/-! ### digits -/
theorem dig128 : ∀ c : Nat, c < 128 → PySem.Unicode.isDigit c = decide (48 ≤ c ∧ c ≤ 57) := by
  have : ∀ c : Fin 128, PySem.Unicode.isDigit c.val = decide (48 ≤ c.val ∧ c.val ≤ 57) := by decide +kernel
  intro c h
  exact this ⟨c, h⟩
theorem all_tl (x : Str) (p : Nat → Bool) : x.cps.all p = (tl x).all p := by simp [TL.tl]
def digs (l : List Nat) : Bool := !l.isEmpty && l.all fun c => decide (48 ≤ c ∧ c ≤ 57)
theorem digs_iff {l : List Nat} : digs l = true ↔ l ≠ [] ∧ AllDigits l := by
  unfold digs
  rw [Bool.and_eq_true, List.all_eq_true]
  constructor
  · rintro ⟨h1, h2⟩
    exact ⟨by simpa using h1, fun c hc => by simpa using h2 c hc⟩
  · rintro ⟨h1, h2⟩
    exact ⟨by simpa using h1, fun c hc => by simpa using h2 c hc⟩
theorem isdigit_ascii (x : Str) : (Txt.isascii x = true → Txt.isdigit x = digs (tl x)) ∧ (Txt.isascii x = false → digs (tl x) = false) := by
  unfold Txt.isascii Txt.isdigit digs
  rw [all_tl, all_tl, tl_len x]
  constructor
  · intro h
    have h' := List.all_eq_true.mp h
    have e : (tl x).all PySem.Unicode.isDigit = (tl x).all fun c => decide (48 ≤ c ∧ c ≤ 57) := by
      refine Bool.eq_iff_iff.mpr ?_
      rw [List.all_eq_true, List.all_eq_true]
      refine forall_congr' fun c => ⟨fun q hc => ?_, fun q hc => ?_⟩
      · rw [← dig128 c (by simpa using h' c hc)]
        exact q hc
      · rw [dig128 c (by simpa using h' c hc)]
        exact q hc
    rw [e]
    cases tl x <;> simp
  · intro h
    rw [Bool.eq_false_iff] at h ⊢
    intro q
    rw [Bool.and_eq_true, List.all_eq_true] at q
    refine h (List.all_eq_true.mpr fun c hc => ?_)
    have := q.2 c hc
    simp at this ⊢
    omega
/-- int of digits -/
theorem int_digits {x : Str} (h : AllDigits (tl x)) (h1 : tl x ≠ []) (h2 : (tl x).length ≤ 4300) : intText? x = some ((digitsVal (tl x) : Nat) : Int) := intText_digits h h1 (by rw [tl_len x]; exact h2)
/-- the signs of an int -/
def intD (n : Int) : List Nat := (if n < 0 then [45] else []) ++ numD n.natAbs
theorem tl_int (n : Int) : tl (Str.ofString (toString n)) = intD n := by
  unfold intD
  by_cases h : n < 0
  · rw [if_pos h, PyProof.Rows.toString_neg h]
    have e : Str.ofString ("-" ++ toString (0 - n)) = "-" ++ Str.ofString (toString (0 - n)) := by
      refine str_eq ?_
      rw [TL.tl_append, TL.tl_ofString, TL.tl_ofString, TL.tl_ofString, String.toList_append, List.map_append]
    rw [e, TL.tl_append, tl_minus]
    have : (0 - n) = ((n.natAbs : Nat) : Int) := by omega
    rw [this, TL.tl_num]
  · rw [if_neg h, List.nil_append]
    have : n = ((n.natAbs : Nat) : Int) := by omega
    conv => lhs; rw [this]
    exact TL.tl_num _
theorem intD_nat (n : Nat) : intD (n : Int) = numD n := by
  unfold intD
  rw [if_neg (by omega), List.nil_append, Int.natAbs_natCast]
/-- zeros ahead -/
theorem tl_zfill {x : Str} (h : AllDigits (tl x)) (k : Nat) : tl (Txt.zfill x (k : Int)) = List.replicate (k - (tl x).length) 48 ++ tl x := by
  unfold Txt.zfill
  by_cases hk : (k : Int) ≤ x.length
  · rw [if_pos hk]
    have : k - (tl x).length = 0 := by
      rw [tl_len x] at hk
      omega
    rw [this, List.replicate_zero, List.nil_append]
  · rw [if_neg hk]
    unfold PySem.zfilled
    have hc : x.cps[0]? = (tl x)[0]? := by simp [TL.tl]
    rw [hc]
    have e : tl (PySem.Builtin.Str.padded x ((k : Int).toNat - x.length) 0 48) = List.replicate (k - (tl x).length) 48 ++ tl x := by
      unfold PySem.Builtin.Str.padded
      rw [Int.toNat_natCast, tl_len x]
      simp [TL.tl]
    cases ht : tl x with
    | nil =>
      rw [ht] at e
      exact e
    | cons c r =>
      rw [ht] at e
      have hcd := h c (by rw [ht]; exact List.mem_cons_self)
      show tl (match some c with | some 43 | some 45 => _ | _ => _) = _
      split
      · rename_i q
        cases q
        omega
      · rename_i q
        cases q
        omega
      · exact e
/-- zeros ahead taken away -/
theorem tl_lstrip0 (x : Str) : tl (Txt.lstripChars x "0") = (tl x).dropWhile (· == 48) := by
  unfold Txt.lstripChars
  rw [PyProof.Rows.stripBy_eq]
  have hg : (("0" : Str).cps.contains : Nat → Bool) = fun c => c == 48 := by
    funext c
    have : ("0" : Str).cps = #[48] := by decide +kernel
    rw [this]
    simp [Array.contains, eq_comm]
  rw [hg]
  unfold PySem.stripLo PySem.stripHi
  rw [if_pos rfl, if_neg (by decide), TL.tl_strSub_end]
  have : ∀ l : List Nat, l.drop (l.takeWhile (· == 48)).length = l.dropWhile (· == 48) := fun l => by
    induction l with
    | nil => rfl
    | cons c r ih =>
      rw [List.takeWhile_cons, List.dropWhile_cons]
      by_cases h : (c == 48) = true
      · rw [if_pos h, if_pos h, List.length_cons, List.drop_succ_cons]
        exact ih
      · rw [if_neg h, if_neg h]
        rfl
  exact this _
/-- the parts of a text -/
theorem tl_cut (x : Str) (lo hi : Option Int) : tl (cutS x lo hi) = ((tl x).drop (HT.sIx (tl x).length 0 lo)).take (HT.sIx (tl x).length (tl x).length hi - HT.sIx (tl x).length 0 lo) := by
  unfold cutS
  rw [← tl_len x]
theorem tl_cut_from (x : Str) (k : Nat) : tl (cutS x (some (k : Int)) none) = (tl x).drop k := by
  rw [tl_cut, HT.sIx_nat, HT.sIx_none]
  by_cases h : k ≤ (tl x).length
  · rw [Nat.min_eq_left h]
    exact List.take_of_length_le (by rw [List.length_drop] <;> omega)
  · rw [Nat.min_eq_right (by omega), List.drop_length, List.take_nil, List.drop_eq_nil_of_le (by omega)]
theorem tl_cut_to (x : Str) (k : Nat) : tl (cutS x none (some (k : Int))) = (tl x).take k := by
  rw [tl_cut, HT.sIx_nat, HT.sIx_none, List.drop_zero, Nat.sub_zero]
  by_cases h : k ≤ (tl x).length
  · rw [Nat.min_eq_left h]
  · rw [Nat.min_eq_right (by omega), List.take_length, List.take_of_length_le (by omega)]
/-- joined without anything between -/
theorem tl_join0 (ys : List Str) : tl (Txt.join Str.empty ys) = (ys.map tl).flatten := by
  rw [TL.join_eq, TL.tl_join]
  have : ∀ l : List (List Nat), TL.joinL [] l = l.flatten := fun l => by
    induction l with
    | nil => rfl
    | cons a r ih =>
      cases r with
      | nil => simp [TL.joinL]
      | cons b r =>
        show a ++ ([] ++ TL.joinL [] (b :: r)) = _
        rw [ih, List.nil_append, List.flatten_cons (l := a)]
  exact this _
/-- a sign's place among the digits -/
theorem find_digit (c : Nat) : Txt.find "0123456789" ⟨#[c]⟩ = if 48 ≤ c ∧ c ≤ 57 then ((c : Int) - 48) else -1 := by
  have ht : tl "0123456789" = [48, 49, 50, 51, 52, 53, 54, 55, 56, 57] := by decide +kernel
  have hat : ∀ i, StrLaws.At "0123456789" ⟨#[c]⟩ ("0123456789" : Str).length i ↔ [48, 49, 50, 51, 52, 53, 54, 55, 56, 57][i]? = some c := fun i => by
    rw [← ht]
    exact StrLaws.subAt_one "0123456789" c i
  rcases PyProof.Rows.find_whole "0123456789" ⟨#[c]⟩ with ⟨e, hn⟩ | ⟨i, e, hi, _⟩
  · rw [e, if_neg]
    rintro ⟨h1, h2⟩
    refine hn (c - 48) ((hat _).mpr ?_)
    have : ∀ d : Fin 10, [48, 49, 50, 51, 52, 53, 54, 55, 56, 57][d.val]? = some (48 + d.val) := by decide
    have := this ⟨c - 48, by omega⟩
    rw [this]
    congr 1
    show 48 + (c - 48) = c
    omega
  · have h := (hat _).mp hi
    have hlt : i < 10 := by
      have := (List.getElem?_eq_some_iff.mp h).1
      simpa using this
    have : ∀ d : Fin 10, [48, 49, 50, 51, 52, 53, 54, 55, 56, 57][d.val]? = some (48 + d.val) := by decide
    have h2 := this ⟨i, hlt⟩
    rw [show (⟨i, hlt⟩ : Fin 10).val = i from rfl, h] at h2
    have h3 := Option.some.inj h2
    rw [e, if_pos (by omega)]
    omega
end SpX

set_option Elab.async false
set_option linter.all false
set_option maxRecDepth 100000
set_option maxHeartbeats 2000000
/-! Built-ins over tuples, and of math. -/
namespace SpX
open PySem PySem.Spec PyProof.Rows L2
section
variable {prog : Program} {w : World} {A : Around} {E : Value → Shared → Prop} {s : Shared}
theorem sum_tuple {t : Addr} {its : List Value} {ns : List Int} {Q : Value → Shared → Prop} (calm : A.handled = none) (ht : s.heap.IsTuple t its.toArray) (hi : IntsAre its ns)
    (h : ∀ h' tk t', (∀ b o, s.heap.get? b = some o → h'.get? b = some o) → Q (.int ns.sum t') { s with heap := h', toks := tk }) : wpAny (model prog w) A (call (.builtin "sum") [.ref t]) Q E s := by
  obtain ⟨xs, e⟩ := hi.allInts.items
  have hn : numsOf (intItems xs).toList = ns := by
    rw [← e]
    exact hi.numsOf
  rw [nums_intItems] at hn
  rw [e] at ht
  have lt : t < s.heap.objs.size := by
    obtain ⟨_, q, _⟩ := ht
    exact Heap.lt_size q
  refine call_sum_walkG (wpAny_pyIter_tuple ht ?_)
  refine ⟨_, [s.heap.objs.size, t], [s.heap.objs.size], _, _, _, numAt xs, rfl, Walks.tuple (A := A.in1) calm _ t (Nat.ne_of_lt lt) (intItems xs), ⟨⟨_, Heap.get?_push_size _ rfl, rfl, rfl⟩, ht.at fun o q => Heap.get?_push_of_some _ q⟩, fun b hb => ?_, fun _ _ => intItems_at, fun h' tk t' hk => ?_⟩
  · show b < (s.heap.push _).objs.size
    rw [Heap.size_push]
    rcases List.mem_cons.mp hb with z | hb
    · rw [z]
      exact Nat.lt_succ_self _
    · rw [List.mem_singleton.mp hb]
      exact Nat.lt_succ_of_lt lt
  · have old : ∀ b o, s.heap.get? b = some o → h'.get? b = some o := fun b o q => by
      refine hk b o (fun hm => ?_) (Heap.get?_push_of_some _ q)
      have z := Heap.lt_size q
      rw [List.mem_singleton.mp hm] at z
      exact Nat.lt_irrefl _ z
    have fin := h h' tk t' old
    have es : (intItems xs).size = xs.size := by simp [intItems]
    rw [es, preSum_eq, List.take_of_length_le (by simp), hn]
    exact fin
end
/-- the numbers of a tracked list or tuple -/
def rSumA : List V → Hp → VK → Prop := fun vs H Q => ∃ (a : Addr) (ns : List Int), vs = [.ref a] ∧ (H a = some (.lst (ns.map V.int)) ∨ H a = some (.tup (ns.map V.int))) ∧ Q (.int ns.sum) H
theorem call_sumA {X : Cx} (hc : X.calm = true) : CallR X (.builtin "sum") rSumA := by
  intro pins s σ H vs us Q I r h
  obtain ⟨a, ns, rfl, h1 | h1, q⟩ := h
  · exact cr_sum hc pins s σ H _ us Q I r ⟨a, ns, rfl, .inl (.inl h1), q⟩
  · obtain ⟨its, rv, hl, _⟩ := I.tuple (SqT.at (K := X.K) h1)
    rw [Vals.ref1 r]
    exact sum_tuple (I.ok.hd hc) hl rv.ints fun h' tk t' hk => ⟨.int _, H, I.kept hk, ⟨_, rfl⟩, q⟩
/-- the factorial, by products -/
def facI (n : Int) : Int := ((Builtin.Math.factorialNat n.toNat : Nat) : Int)
def rFac : List V → Hp → VK → Prop := fun vs H Q => ∃ n : Int, vs = [.int n] ∧ 0 ≤ n ∧ n ≤ 20000 ∧ Q (.int (facI n)) H
theorem cr_fac {X : Cx} : CallR X (.builtin "math.factorial") rFac := by
  intro pins s σ H vs us Q I r h
  obtain ⟨n, rfl, h0, h1, q⟩ := h
  obtain ⟨u, rfl, rx⟩ := vals1 r
  obtain ⟨t, rfl⟩ := rx
  exact PySem.W.mc_factorial h0 h1 fun _ => ⟨.int _, H, I.tok _, ⟨_, rfl⟩, q⟩
section
variable {σ : L2.St} {H : Hp} {Q : VK} {p : Addr} {ns : List Int} {n : Int}
theorem x_sumT (h : H p = some (.tup (ns.map V.int))) : rSumA [.ref p] H Q = Q (.int ns.sum) H := propext (Iff.intro
  (fun ⟨_, ms, e1, h1, q⟩ => by
    cases e1
    rw [h] at h1
    rcases h1 with h1 | h1
    · cases h1
    · have e : ns.map V.int = ms.map V.int := by
        injection h1 with h1
        injection h1
      have e2 : ns = ms := List.map_inj_right (fun _ _ z => by injection z) |>.mp e
      rw [e2]
      exact q)
  (fun q => ⟨_, _, rfl, .inr h, q⟩))
theorem x_sumL (h : H p = some (.lst (ns.map V.int))) : rSumA [.ref p] H Q = Q (.int ns.sum) H := propext (Iff.intro
  (fun ⟨_, ms, e1, h1, q⟩ => by
    cases e1
    rw [h] at h1
    rcases h1 with h1 | h1
    · have e : ns.map V.int = ms.map V.int := by
        injection h1 with h1
        injection h1
      have e2 : ns = ms := List.map_inj_right (fun _ _ z => by injection z) |>.mp e
      rw [e2]
      exact q
    · cases h1)
  (fun q => ⟨_, _, rfl, .inl h, q⟩))
theorem x_fac (h0 : 0 ≤ n) (h1 : n ≤ 20000) : rFac [.int n] H Q = Q (.int (facI n)) H := propext (Iff.intro
  (fun ⟨_, e1, _, _, q⟩ => by
    cases e1
    exact q)
  (fun q => ⟨_, rfl, h0, h1, q⟩))
end
/-! ### tuples and truths of tracked things -/
theorem int_map_inj {ns ms : List Int} (e : ns.map V.int = ms.map V.int) : ns = ms := List.map_inj_right (fun _ _ z => by injection z) |>.mp e
/-- tuple(list), tuple(tuple) -/
def rTupA : List V → Hp → VK → Prop := fun vs H Q => ∃ p xs, vs = [.ref p] ∧ ((H p = some (.lst xs) ∧ ∀ l, H l = none → Q (.ref l) (upd H l (.tup xs))) ∨ (H p = some (.tup xs) ∧ Q (.ref p) H))
/-- all(list of truths) -/
def rAllA : List V → Hp → VK → Prop := fun vs H Q => ∃ (a : Addr) (bs : List Bool), vs = [.ref a] ∧ H a = some (.lst (bs.map V.bl)) ∧ Q (.bl (bs.all id)) H
/-- tuple < tuple, of ints -/
def rLtA : R2 := fun x y H Q => ∃ (a b : Addr) (ns ms : List Int), x = .ref a ∧ y = .ref b ∧ H a = some (.tup (ns.map V.int)) ∧ H b = some (.tup (ms.map V.int)) ∧ Q (.bl (HT.lexLt ns ms)) H
/-- list(list or tuple) -/
inductive IsB (H : Hp) : List V → Bool → Prop where
  | ll {p : Addr} {xs : List V} (h : H p = some (.lst xs)) : IsB H [.ref p, .ty "list"] true
  | tt {p : Addr} {xs : List V} (h : H p = some (.tup xs)) : IsB H [.ref p, .ty "tuple"] true
  | bb (b : Bool) : IsB H [.bl b, .ty "bool"] true
theorem IsB.yes {H : Hp} {xs : List V} {b : Bool} (h : IsB H xs b) : b = true := by cases h <;> rfl
def rIsB : List V → Hp → VK → Prop := fun xs H Q => ∃ b, IsB H xs b ∧ Q (.bl b) H
section
variable {X : Cx}
theorem call_tupA : CallR X (.type "tuple") rTupA := by
  intro pins s σ H xs us Q I r h
  obtain ⟨p, ys, rfl, ⟨h1, q⟩ | ⟨h1, q⟩⟩ := h
  · exact call_tuple_of pins s σ H _ us Q I r ⟨p, ys, rfl, .inl ⟨.inl (.inl h1), q⟩⟩
  · exact call_tuple_of pins s σ H _ us Q I r ⟨p, ys, rfl, .inr ⟨.inl (.inl h1), q⟩⟩
theorem cr_allA (hc : X.calm = true) : CallR X (.builtin "all") rAllA := by
  intro pins s σ H xs us Q I r h
  obtain ⟨a, bs, rfl, h1, q⟩ := h
  exact cr_all hc pins s σ H _ us Q I r ⟨a, bs, rfl, .inl (.inl h1), q⟩
theorem op_ltA (hu : X.A.units < cLine) : OpR X (compareOp .Lt) rLtA := by
  intro pins s σ H x y v u Q I rx ry h
  obtain ⟨a, b, ns, ms, rfl, rfl, h1, h2, q⟩ := h
  exact op_ltT hu pins s σ H _ _ v u Q I rx ry ⟨a, b, ns, ms, rfl, rfl, .inl (.inl h1), .inl (.inl h2), q⟩
theorem call_isB : CallR X (.builtin "isinstance") rIsB := by
  intro pins s σ H xs us Q I r h
  obtain ⟨b, h, q⟩ := h
  cases h with
  | ll e => exact call_isi pins s σ H _ us Q I r ⟨_, _, _, _, _, rfl, .ty _, .base (.lst e), kit_ty (by decide +kernel), q⟩
  | tt e => exact call_isi pins s σ H _ us Q I r ⟨_, _, _, _, _, rfl, .ty _, .base (.tup e), kit_ty (by decide +kernel), q⟩
  | bb c => exact call_isi pins s σ H _ us Q I r ⟨_, _, _, _, _, rfl, .ty _, .base (.bl c), kit_ty (by decide +kernel), q⟩
end
section
variable {σ : L2.St} {H : Hp} {Q : VK} {p q : Addr} {xs : List V} {ns ms : List Int} {bs : List Bool}
theorem x_tupL (h : H p = some (.lst xs)) : rTupA [.ref p] H Q = ∀ l, H l = none → Q (.ref l) (upd H l (.tup xs)) := propext (Iff.intro
  (fun ⟨_, _, e1, z⟩ => by
    cases e1
    rw [h] at z
    rcases z with ⟨z, k⟩ | ⟨z, k⟩
    · cases z
      exact k
    · cases z)
  (fun k => ⟨_, _, rfl, .inl ⟨h, k⟩⟩))
theorem x_tupT (h : H p = some (.tup xs)) : rTupA [.ref p] H Q = Q (.ref p) H := propext (Iff.intro
  (fun ⟨_, _, e1, z⟩ => by
    cases e1
    rw [h] at z
    rcases z with ⟨z, k⟩ | ⟨z, k⟩
    · cases z
    · exact k)
  (fun k => ⟨_, _, rfl, .inr ⟨h, k⟩⟩))
theorem x_ltA (h : H p = some (.tup (ns.map V.int))) (h' : H q = some (.tup (ms.map V.int))) : rLtA (.ref p) (.ref q) H Q = Q (.bl (HT.lexLt ns ms)) H := propext (Iff.intro
  (fun ⟨_, _, _, _, e1, e2, h1, h2, k⟩ => by
    cases e1; cases e2
    rw [h] at h1
    rw [h'] at h2
    injection h1 with h1
    injection h1 with h1
    injection h2 with h2
    injection h2 with h2
    rw [int_map_inj h1, int_map_inj h2]
    exact k)
  (fun k => ⟨_, _, _, _, rfl, rfl, h, h', k⟩))
theorem bl_map_inj {as bs : List Bool} (e : as.map V.bl = bs.map V.bl) : as = bs := List.map_inj_right (fun _ _ z => by injection z) |>.mp e
theorem x_allA (h : H p = some (.lst (bs.map V.bl))) : rAllA [.ref p] H Q = Q (.bl (bs.all id)) H := propext (Iff.intro
  (fun ⟨_, _, e1, h1, k⟩ => by
    cases e1
    rw [h] at h1
    injection h1 with h1
    injection h1 with h1
    rw [bl_map_inj h1]
    exact k)
  (fun k => ⟨_, _, rfl, h, k⟩))
theorem x_isLL (h : H p = some (.lst xs)) : rIsB [.ref p, .ty "list"] H Q = Q (.bl true) H := propext (Iff.intro (fun ⟨_, z, k⟩ => by rw [z.yes] at k; exact k) fun k => ⟨_, .ll h, k⟩)
theorem x_isTT (h : H p = some (.tup xs)) : rIsB [.ref p, .ty "tuple"] H Q = Q (.bl true) H := propext (Iff.intro (fun ⟨_, z, k⟩ => by rw [z.yes] at k; exact k) fun k => ⟨_, .tt h, k⟩)
theorem x_isBB {b : Bool} : rIsB [.bl b, .ty "bool"] H Q = Q (.bl true) H := propext (Iff.intro (fun ⟨_, z, k⟩ => by rw [z.yes] at k; exact k) fun k => ⟨_, .bb b, k⟩)
theorem x_lenT (h : H p = some (.tup xs)) : rLenA [.ref p] H Q = Q (.int xs.length) H := propext (Iff.intro
  (fun ⟨_, _, e1, h1, k⟩ => by
    cases e1
    rw [h] at h1
    rcases h1 with h1 | h1
    · cases h1
    · cases h1
      exact k)
  (fun k => ⟨_, _, rfl, .inr h, k⟩))
theorem x_listT (h : H p = some (.tup xs)) : rListA [.ref p] H Q = ∀ l, H l = none → Q (.ref l) (upd H l (.lst xs)) := propext (Iff.intro
  (fun ⟨_, _, e1, h1, k⟩ => by
    cases e1
    rw [h] at h1
    rcases h1 with h1 | h1
    · cases h1
    · cases h1
      exact k)
  (fun k => ⟨_, _, rfl, .inr h, k⟩))
theorem x_isN {ta : TE} : tIsN ta σ H Q = ta σ H (fun x H1 => Q (.bl (decide (x = .non))) H1) := rfl
theorem x_notN {ta : TE} : tNotN ta σ H Q = ta σ H (fun x H1 => Q (.bl (!decide (x = .non))) H1) := rfl
end
end SpX

set_option Elab.async false
set_option linter.all false
set_option maxRecDepth 100000
set_option maxHeartbeats 4000000
/-! The caught exception's classes; list(generator) inside a try. -/
namespace SpX
open PySem PySem.Spec PyProof.Rows L2
/-- isinstance of the caught exception, its class being the one at D -/
def rCaught (K : PySem.W.Frag) (D a : Addr) (cls : Value) (d : Option Addr) : List V → Hp → VK → Prop := fun xs H Q => cls = .ref D ∧ d = none ∧ rIsE K D a xs H Q
theorem call_caught {X : Cx} {a D : Addr} {oe : Obj} {cls : Value} {d : Option Addr} {pn : List (Addr × Obj)} (C : ExcC X.K D) (hz : Zc cls d oe) (hf : ∃ vs, oe.data = .fields vs) : CallR (X.suite a ((a, oe) :: pn)) (.builtin "isinstance") (rCaught X.K D a cls d) := by
  intro pins s σ H xs us Q I r h
  obtain ⟨rfl, rfl, h⟩ := h
  exact call_isE C hz hf pins s σ H xs us Q I r h
theorem caught_of {K : PySem.W.Frag} {Z a c : Addr} {b : Bool} {H : Hp} {Q : VK} (h : PySem.W.kitOne K (.ref Z) (.ref c) = some b) (k : Q (.bl b) H) : rCaught K Z a (.ref Z) none [.ref a, .ref c] H Q :=
  ⟨rfl, rfl, .ref c, .ref c, b, rfl, fun u r => r, h, k⟩
theorem caught_ty {K : PySem.W.Frag} {Z a : Addr} {c : String} {b : Bool} {H : Hp} {Q : VK} (h : PySem.W.kitOne K (.ref Z) (.type c) = some b) (k : Q (.bl b) H) : rCaught K Z a (.ref Z) none [.ref a, .ty c] H Q :=
  ⟨rfl, rfl, .ty c, .type c, b, rfl, fun u r => r, h, k⟩
/-- the way out of a call whose values of names are not told: it serves all of them -/
def xAll (Z : Addr) (n : Nat) (W : WX) : XK := fun cls d H => cls = .ref Z ∧ ∀ σ : L2.St, σ.length = n → W cls d σ H
theorem passAll {X : Cx} {W : WX} {Z : Addr} {n : Nat} (tk : Takes X W) (hn : X.N.length = n) : Passes (L2.CX X.prog X.w) X (xAll Z n W) := fun _ σ _ _ e s' I c => tk e s' (XE.of_call I (fun _ _ _ h => h.2 σ (by rw [I.len, hn])) c)
theorem noStop_all {K : PySem.W.Frag} {W : WX} {Z : Addr} {n : Nat} (h : PySem.W.subIn K (.ref Z) (.type "StopIteration") = some false) : NoStop K (xAll Z n W) := fun cls d H k => by
  rw [k.1]
  exact h
theorem x_callS {sp : Sp} {E : L2.St → XK} {t : TA} {σ : L2.St} {H : Hp} {Q : VK} : tCallS sp E t σ H Q = t σ H fun vs H1 => sp vs H1 Q (E σ) := rfl
end SpX

set_option Elab.async false
set_option linter.all false
set_option maxRecDepth 100000
set_option maxHeartbeats 2000000
/-! sorted(xs, key=f), f a def that gives tuples of ints: over Inv (a promise says nothing of generators, so the loop over the keys goes over Inv). -/
namespace SpX
open PySem PySem.Spec PyProof.Rows PySem.W L2
section
variable {X : Cx} {CX : CXT} {k : Nat} {f : Addr} {fd : FuncData} {ps : List Str} {sp : Sp} {E : XK} {pins : List (Addr × Obj)} {σ : L2.St} {H : Hp} {s : Shared}
/-- the callee runs below a builtin; its own way out -/
theorem run_fnR {A : Around} {Q : VK} {us : List Value} {vs : List V} (sb : Sub X k A) (F : FnOk X.prog X.w X.K X.mg X.base CX k f fd ps sp) (hb : Binds X.K fd ps [])
    (I : Inv X pins σ H s) (r : Vals vs us) (h : sp vs H Q E) : wpAny (model X.prog X.w) A (call (.ref f) us) (EP X pins σ Q) (fun e s' => CX X.stack H s E e s') s := by
  have e0 : Env0 X.prog X.w X.K X.mg X.base A X.stack s H := by
    have e := I.env0
    exact ⟨by rw [sb.fr]; exact e.frames, e.mod, e.bs, e.bsz, e.funs, e.frf, e.hok, e.bare⟩
  have hl := F.len _ _ _ _ h
  have b := hb s us I.kIn (by rw [List.append_nil, ← r.length]; exact hl)
  rw [List.append_nil] at b
  refine wpAny_call (codeAny_mono (F.run A X.stack s H ⟨us, []⟩ us vs Q E sb.room e0 b r h) fun r s' hq => ?_)
  cases r with
  | error e => exact hq
  | ok fl =>
    cases fl with
    | ret u => exact I.after hq
    | next => exact False.elim hq
    | brk => exact False.elim hq
    | cont => exact False.elim hq
/-- an address that nothing knows of yet -/
structure Ours (X : Cx) (pins : List (Addr × Obj)) (b : Addr) : Prop where
  loc : b ≠ X.env.locals
  new : X.s_0.heap.objs.size ≤ b
  cel : ∀ x c, X.env.cells.lookup x = some c → c ≠ b
  pin : ∀ p ∈ X.pn ++ pins, p.1 ≠ b
  fs : b ∉ X.fs
theorem ours_of (I : Inv X pins σ H s) {b : Addr} (h : s.heap.objs.size ≤ b) : Ours X pins b := by
  refine ⟨fun e => ?_, Nat.le_trans I.sz h, fun x c hc e => ?_, fun p hp e => ?_, I.nofs h⟩
  · have := I.lt
    rw [← e] at this
    exact absurd this (Nat.not_lt.mpr h)
  · obtain ⟨v, o, ho, _⟩ := I.cell x c hc
    have := Heap.lt_size ho
    rw [e] at this
    exact absurd this (Nat.not_lt.mpr h)
  · have := Heap.lt_size (I.pin p hp).1
    rw [e] at this
    exact absurd this (Nat.not_lt.mpr h)
theorem freed_none {h : Heap} {b : Addr} : (h.update b fun o => { o with data := .freed }).get? b = none := by
  unfold Heap.get?
  rw [Heap.objs_update_self]
  cases h.objs[b]? <;> rfl
/-- what a sort leaves: all but two of ours is kept, one of them is the list now -/
theorem inv_sorted {a kS : Addr} {ys : List V} {h' : Heap} {tk : Nat} (I : Inv X pins σ H s) (oa : Ours X pins a) (ok : Ours X pins kS) (na : H a = none) (nk : H kS = none)
    (k : ∀ b o, b ≠ a → b ≠ kS → s.heap.get? b = some o → h'.get? b = some o) (new : ObjOk X.prog X.w (upd H a (.lst ys)) h' a (.lst ys)) : Inv X pins σ (upd H a (.lst ys)) { s with heap := h', toks := tk } := by
  have hin : ∀ b, b ∉ [a, kS] → b ≠ a ∧ b ≠ kS := fun b h => ⟨fun e => h (by simp [e]), fun e => h (by simp [e])⟩
  have ha : ∀ b u, H b = some u → b ≠ a := fun b u e z => by rw [z, na] at e; cases e
  have hk : ∀ b u, H b = some u → b ≠ kS := fun b u e z => by rw [z, nk] at e; cases e
  have hu : ∀ b u, H b = some u → upd H a (.lst ys) b = some u := fun b u e => by rw [upd_ne (ha b u e)]; exact e
  refine I.step (g' := s.gens) (d' := s.drawn) (ch := [a, kS]) (fun b hb => ?_) (fun b o _ _ hc e _ => k b o (hin b hc).1 (hin b hc).2 e) (fun b o _ _ hc e _ => ⟨o.slots, k b o (hin b hc).1 (hin b hc).2 e⟩)
    (fun b o hc _ n => by rw [upd_ne (hin b hc).1]; exact n) (fun b o hc e => ⟨o, k b o (hin b hc).1 (hin b hc).2 e⟩) (fun b _ e => hu b _ e) (fun b _ _ e => hu b _ e) (fun b ps e => ⟨#[], by rw [hu b _ e]; simp⟩) (fun m hm => ?_) (fun b u e => ?_) I.bare
  · rcases List.mem_cons.mp hb with e | e
    · subst e
      exact ⟨.inr oa.new, oa.loc, oa.cel, oa.pin⟩
    · rw [List.mem_singleton.mp e]
      exact ⟨.inr ok.new, ok.loc, ok.cel, ok.pin⟩
  · obtain ⟨o, es, ep, ho, r⟩ := hm
    exact ⟨o, es, ep, k _ o (Ne.symm oa.loc) (Ne.symm ok.loc) ho, r⟩
  · by_cases eb : b = a
    · subst eb
      rw [upd_same] at e
      cases e
      exact new
    · rw [upd_ne eb] at e
      refine (I.hok b u e).stay (fun c v hc q => ?_) (fun c q => hu c _ q) fun c xs q => hu c _ q
      rcases hc with z | z
      · rw [z] at q ⊢
        exact k b v eb (hk b u e) q
      · exact k c v (ha c _ z) (hk c _ z) q
/-- a key as data -/
def tupD (k : List Int) : PyData := .tuple (k.map PyData.int)
def KeyV (H : Hp) (v : Value) (k : List Int) : Prop := ∃ q, v = .ref q ∧ H q = some (.tup (k.map V.int))
theorem KeyV.same {H H' : Hp} {v : Value} {k : List Int} (h : KeyV H v k) (s : Same H H') : KeyV H' v k := by
  obtain ⟨q, e, h⟩ := h
  exact ⟨q, e, s _ _ h⟩
theorem dp_ints {K : PySem.W.Frag} {H : Hp} : ∀ k : List Int, DpAll K H (k.map V.int) (k.map PyData.int)
  | [] => .nil
  | i :: r => .cons (.int i) (dp_ints r)
theorem KeyV.reads {v : Value} {k : List Int} (h : KeyV H v k) (I : Inv X pins σ H s) : ∃ as, Reads s.heap v (tupD k) as := by
  obtain ⟨q, rfl, h⟩ := h
  exact Dp.reads I (tupD k) (.ref q) (.ref q) (.tup (SqT.at h) (dp_ints k)) rfl
theorem alike_ints : ∀ a b : List Int, alikeAll (a.map PyData.int) (b.map PyData.int) = true
  | [], _ => by simp [alikeAll]
  | _ :: _, [] => by simp [alikeAll]
  | x :: r, y :: t => by
    simp only [List.map_cons, alikeAll, alike, Bool.true_and]
    exact alike_ints r t
theorem alike_tups (ks : List (List Int)) : AllAlike (ks.map tupD) := by
  intro d hd d' hd'
  obtain ⟨a, _, rfl⟩ := List.mem_map.mp hd
  obtain ⟨b, _, rfl⟩ := List.mem_map.mp hd'
  show alike (.tuple _) (.tuple _) = true
  simp only [alike]
  exact alike_ints a b
theorem sortable_tups {ks : List (List Int)} (h : ∀ k ∈ ks, k ≠ []) : Sortable (ks.map tupD) := by
  refine .inl fun d hd => ?_
  obtain ⟨a, ha, rfl⟩ := List.mem_map.mp hd
  cases a with
  | nil => exact absurd rfl (h [] ha)
  | cons x r => exact ⟨_, _, rfl⟩
theorem depth_ints : ∀ k : List Int, PyData.depthAll (k.map PyData.int) = 0
  | [] => by simp [PyData.depthAll]
  | x :: r => by
    simp only [List.map_cons, PyData.depthAll, PyData.depth, depth_ints r]
    rfl
theorem depth_tup (k : List Int) : (tupD k).depth ≤ 64 := by
  unfold tupD
  simp only [PyData.depth, depth_ints]
  omega
theorem dataLe_tups {β : Type} (x : β → List Int) : dataLe false (fun b => tupD (x b)) = fun p q => decide (x p ≤ x q) := by
  funext p q
  rw [← congrFun (congrFun (dataLe_rows x) p) q]
  show (!dataLt (.tuple _) (.tuple _)) = (!dataLt (.list _) (.list _))
  rw [dataLt_tuple, dataLt_list]
theorem each_vals {β : Type} : ∀ {vs : List Value} {bs : List (V × β)}, EachIs (fun v b => RelV b.1 v) vs bs → Vals (bs.map (·.1)) vs
  | _, _, .nil => .nil
  | _, _, .cons h t => .cons h (each_vals t)
theorem vals_each : ∀ {xs : List V} {vs : List Value} {ks : List (List Int)}, Vals xs vs → ks.length = xs.length → EachIs (fun v (b : V × List Int) => RelV b.1 v) vs (xs.zip ks)
  | _, _, [], .nil, _ => .nil
  | _, _, _ :: _, .nil, h => by simp at h
  | _, _, [], .cons _ _, h => by simp at h
  | _, _, _ :: _, .cons r t, h => .cons r (vals_each t (by simpa using h))
/-- the items by their keys -/
def sortBy (xs : List V) (ks : List (List Int)) : List V := ((xs.zip ks).mergeSort fun p q => decide (p.2 ≤ q.2)).map (·.1)
theorem sort_out (xs : List V) (ks : List (List Int)) {vs out : List Value} {κ : Heap} {keys : List Value} (rv : Vals xs vs) (hl : ks.length = xs.length) (hk : EachIs (fun v d => ∃ as, Reads κ v d as) keys (ks.map tupD))
    (e : out = sortVals (dataKind κ (ks.map tupD)) false keys vs) : Vals (sortBy xs ks) out := by
  have em : (xs.zip ks).map (fun p => tupD p.2) = ks.map tupD := by
    rw [← List.map_snd_zip (l₁ := xs) (l₂ := ks) (by omega), List.map_map, List.map_snd_zip (by omega)]
    rfl
  have ko : KeyedOut false ((xs.zip ks).map fun p => tupD p.2) vs out := by
    rw [em]
    exact ⟨κ, keys, alike_tups ks, e, hk⟩
  have := keyedOut_each (R := fun v (b : V × List Int) => RelV b.1 v) (fun p : V × List Int => tupD p.2) ko (vals_each rv hl)
  rw [dataLe_tups fun p : V × List Int => p.2] at this
  exact each_vals this
theorem sortBy_length (xs : List V) (ks : List (List Int)) (h : ks.length = xs.length) : (sortBy xs ks).length = xs.length := by
  unfold sortBy
  rw [List.length_map, List.length_mergeSort, List.length_zip]
  omega
/-- sorted(xs, key=f): ks are the keys -/
def rSortKey (K : PySem.W.Frag) (f : Addr) (sp : Sp) : List V → List V → Hp → VK → Prop := fun vs zs H Q => ∃ (l : Addr) (xs : List V) (ks : List (List Int)), vs = [.ref l] ∧ zs = [.ref f] ∧ SqL K H l xs ∧ ks.length = xs.length ∧ (∀ k ∈ ks, k ≠ []) ∧
  (∀ (i : Nat) (x : V) (k : List Int) (H1 : Hp), xs[i]? = some x → ks[i]? = some k → Same H H1 → sp [x] H1 (fun v H2 => Same H1 H2 ∧ ∃ q, v = .ref q ∧ H2 q = some (.tup (k.map V.int))) E0) ∧
  ∀ (p : Addr) (H1 : Hp), H1 p = none → Same H H1 → Q (.ref p) (upd H1 p (.lst (sortBy xs ks)))
/-- the loop over the keys: a and kS are ours -/
def KeyLoop (X : Cx) (pins : List (Addr × Obj)) (σ : L2.St) (H : Hp) (a kS : Addr) (oa : Obj) (ks : List (List Int)) (j : Nat) (s : Shared) : Prop :=
  ∃ (Hj : Hp) (kA : Array Value) (e : Nat), Inv X ((kS, seqObj "list" kA e) :: (a, oa) :: pins) σ Hj s ∧ Same H Hj ∧ EachIs (KeyV Hj) kA.toList (ks.take j)
/-- one of ours written, and pinned again -/
theorem repin {kS : Addr} {o1 o2 : Obj} {pins : List (Addr × Obj)} {h' : Heap} {t' : Nat} (I : Inv X ((kS, o1) :: pins) σ H s) (ok : Ours X pins kS) (k : ∀ b o, b ≠ kS → s.heap.get? b = some o → h'.get? b = some o) (e : h'.get? kS = some o2) (hd : ∀ v, o2.data ≠ .cell v) :
    Inv X ((kS, o2) :: pins) σ H { s with heap := h', toks := t' } := by
  obtain ⟨p1, p2, p3, p4, _⟩ := I.pin (kS, o1) (List.mem_append_right _ (.head _))
  have I1 : Inv X pins σ H s := I.pins_of fun p hp => I.pin p (List.mem_append_right _ (.tail _ hp))
  have I2 : Inv X pins σ H { s with heap := h', toks := t' } := I1.turned k p2 p3 (.inr ok.new) ok.cel ok.pin
  refine I2.pins_of fun p hp => ?_
  rcases List.mem_cons.mp hp with rfl | hp
  · exact ⟨e, p2, p3, p4, hd⟩
  · exact I2.pin p (List.mem_append_right _ hp)
theorem each_take {α β : Type} {R : α → β → Prop} {as : List α} {bs : List β} {j : Nat} {x : α} {y : β} (h : EachIs R as (bs.take j)) (e : bs[j]? = some y) (r : R x y) : EachIs R (as ++ [x]) (bs.take (j + 1)) := by
  rw [List.take_add_one, e]
  exact each_snoc r h
theorem each_map {α β γ : Type} {R : α → γ → Prop} {g : β → γ} : ∀ {as : List α} {bs : List β}, EachIs (fun a b => R a (g b)) as bs → EachIs R as (bs.map g)
  | _, _, .nil => .nil
  | _, _, .cons h t => .cons h (each_map t)
theorem key_turn {A : Around} {a kS : Addr} {oa : Obj} {H0 : Hp} {ks : List (List Int)} {j : Nat} {u : Value} {x : V} {kk : List Int} (sb : Sub X k A) (F : FnOk X.prog X.w X.K X.mg X.base CX0 k f fd ps sp) (hb : Binds X.K fd ps []) (ok : Ours X ((a, oa) :: pins) kS)
    (hL : KeyLoop X pins σ H0 a kS oa ks j s) (ru : RelV x u) (hkj : ks[j]? = some kk) (hz : ks.length ≤ sizeLine) (hsp : ∀ H1, Same H0 H1 → sp [x] H1 (fun v H2 => Same H1 H2 ∧ ∃ q, v = .ref q ∧ H2 q = some (.tup (kk.map V.int))) E0)
    {Q : Unit → Shared → Prop} {E' : Value → Shared → Prop} (done : ∀ s', KeyLoop X pins σ H0 a kS oa ks (j + 1) s' → Q () s') :
    wpAny (model X.prog X.w) A (call (.ref f) [u]) (fun v s' => wpAny (model X.prog X.w) A (Builtin.List.listUpdate (.ref kS) (·.push v)) Q E' s') (fun _ _ => False) s := by
  obtain ⟨Hj, kA, e, I, sm, hk⟩ := hL
  refine wpAny_mono (run_fnR (vs := [x]) sb F hb I (.cons ru .nil) (hsp Hj sm)) (fun v s2 got => ?_) fun _ _ c => c
  obtain ⟨w, H2, I2, rw2, sm2, q, rfl, hq⟩ := got
  obtain rfl : v = Value.ref q := rw2
  have nk := (I2.pin (kS, _) (List.mem_append_right _ (.head _))).1
  have hsz : kA.size ≤ sizeLine := by
    have h1 := hk.length
    rw [Array.length_toList, List.length_take] at h1
    omega
  have sb' := Heap.SameBut.update s2.heap kS (Obj.mapSeq (·.push (Value.ref q)))
  refine listUpdate_at nk rfl (done _ ⟨H2, kA.push (.ref q), _, repin (t' := s2.toks) I2 ok (fun b o hb eb => (sb'.2 b hb).trans eb) (get?_update_seq nk (·.push (Value.ref q))) (fun v z => by cases z), sm.trans sm2, ?_⟩) hsz (by rw [Array.size_push]; omega)
  rw [Array.toList_push]
  exact each_take (hk.mono fun v k h => h.same sm2) hkj ⟨q, rfl, hq⟩
theorem rest_run {A : Around} {a kS : Addr} {e1 : Nat} {H0 : Hp} {xs : List V} {ks : List (List Int)} {vs : List Value} {Q : VK} {E' : Value → Shared → Prop} (sb : Sub X k A) (F : FnOk X.prog X.w X.K X.mg X.base CX0 k f fd ps sp) (hb : Binds X.K fd ps [])
    (oa : Ours X pins a) (ok : Ours X ((a, seqObj "list" #[] e1) :: pins) kS) (rv : Vals xs vs) (hl : ks.length = xs.length) (hne : ∀ k ∈ ks, k ≠ []) (hz : xs.length ≤ sizeLine) (hu : A.units + 64 < cLine)
    (hsp : ∀ (i : Nat) (x : V) (k : List Int) (H1 : Hp), xs[i]? = some x → ks[i]? = some k → Same H0 H1 → sp [x] H1 (fun v H2 => Same H1 H2 ∧ ∃ q, v = .ref q ∧ H2 q = some (.tup (k.map V.int))) E0)
    (h0 : KeyLoop X pins σ H0 a kS (seqObj "list" #[] e1) ks 0 s) (q : ∀ H1, H1 a = none → Same H0 H1 → Q (.ref a) (upd H1 a (.lst (sortBy xs ks)))) :
    wpAny (model X.prog X.w) A (ksk_rest a (.ref f) false vs.toArray e1 (.ref kS)) (fun r s' => r = .done (.ret .none) ∧ EP X pins σ Q (.ref a) s') E' s := by
  have hlv := rv.length
  unfold ksk_rest
  refine wpAny_bind (wpAny_rule ?_)
  rw [← Array.forIn_toList]
  refine wpAny_bind (ksk_fold (fun j s' => KeyLoop X pins σ H0 a kS (seqObj "list" #[] e1) ks j s') vs 0 s h0 (fun j u s' hu' hL => ?_) fun s' hL => ?_)
  · rw [Nat.zero_add] at hL ⊢
    have hj : j < xs.length := by
      have := (List.getElem?_eq_some_iff.mp hu').1
      omega
    have hx : xs[j]? = some xs[j] := List.getElem?_eq_getElem hj
    obtain ⟨u', e', ru⟩ := rv.get hx
    rw [hu'] at e'
    obtain rfl : u = u' := Option.some.inj e'
    generalize xs[j] = x at hx ru
    obtain ⟨kk, hkk⟩ : ∃ kk, ks[j]? = some kk := ⟨_, List.getElem?_eq_getElem (by omega)⟩
    refine wpAny_bind (wpAny_attempt (wpAny_mono (key_turn sb F hb ok hL ru hkk (by omega) (fun H1 sm => hsp j x kk H1 hx hkk sm) fun s3 hL3 => wpAny_pure ⟨rfl, hL3⟩) (fun v s2 got => wpAny_bind got) fun _ _ c => c.elim))
  · rw [Nat.zero_add] at hL
    obtain ⟨Hn, kA, e, I, sm, hk⟩ := hL
    obtain ⟨nk, fk, _⟩ := I.pin (kS, _) (List.mem_append_right _ (.head _))
    obtain ⟨na, fa, _⟩ := I.pin (a, _) (List.mem_append_right _ (.tail _ (.head _)))
    rw [List.take_of_length_le (by omega)] at hk
    have J : Inv X pins σ Hn s' := I.pins_of fun p hp => I.pin p (List.mem_append_right _ (.tail _ (.tail _ hp)))
    have hkr : EachIs (fun v d => ∃ as, Reads s'.heap v d as) kA.toList (ks.map tupD) := each_map (hk.mono fun v k h => h.reads J)
    have hks : kA.size = vs.length := by
      have := hk.length
      rw [Array.length_toList] at this
      omega
    have ne : kS ≠ a := fun z => ok.pin (a, seqObj "list" #[] e1) (List.mem_append_right _ (.head _)) z.symm
    refine wpAny_bind (listItems_at nk rfl ?_)
    have hf : ∀ b, b ≠ kS → (s'.heap.update kS fun o => { o with data := .freed }).get? b = s'.heap.get? b := fun b hb => Heap.get?_update_ne _ _ _ _ hb
    refine keyH_end (κ := dataKind s'.heap (ks.map tupD)) (h₁ := s'.heap.update kS fun o => { o with data := .freed }) (fun b o _ eb => ?_) freed_none nk na ne (SortsAt.data hkr (alike_tups ks) (sortable_tups hne) fun d hd => ?_) hks (by omega) fun h' tk c kp hc => ⟨rfl, ?_⟩
    · by_cases hb : b = kS
      · rw [hb, freed_none] at eb
        cases eb
      · rw [← hf b hb]
        exact eb
    · obtain ⟨k, _, rfl⟩ := List.mem_map.mp hd
      have := depth_tup k
      omega
    · have ho := sort_out xs ks rv hl hkr rfl
      refine ⟨.ref a, upd Hn a (.lst (sortBy xs ks)), inv_sorted J oa ⟨ok.loc, ok.new, ok.cel, fun p hp => ok.pin p ?_, ok.fs⟩ fa fk (fun b o h1 h2 eb => kp b o h1 (by rw [hf b h2]; exact eb)) ⟨by rw [sortBy_length xs ks hl]; exact hz, _, c, ho, hc⟩, rfl, q Hn fa sm⟩
      rcases List.mem_append.mp hp with h | h
      · exact List.mem_append_left _ h
      · exact List.mem_append_right _ (.tail _ h)
/-- THE RULE: sorted(xs, key=f) -/
theorem cr_sortedF (F : FnOk X.prog X.w X.K X.mg X.base CX0 k f fd ps sp) (hr : Room (k + 2) X.A) (hb : Binds X.K fd ps []) : CallRK X (.builtin "sorted") [Str.ofString "key"] (rSortKey X.K f sp) := by
  intro pins s σ H vs zs us ws Q I r rz h
  obtain ⟨l, xs, ks, rfl, rfl, hs, hl, hne, hsp, q⟩ := h
  obtain rfl := Vals.ref1 r
  obtain ⟨w1, rfl, rw1⟩ := vals1 rz
  obtain rfl : w1 = Value.ref f := rw1
  obtain ⟨its, rv, pl, hz⟩ := I.list hs
  have hlv := rv.length
  have sb : Sub X k X.A.in1.in1 := Sub.in1 (Sub.in1 (⟨hr, rfl⟩ : Sub X (k + 2) X.A))
  have hu : X.A.in1.in1.units + 64 < cLine := sb.room.units
  refine sorted_of_sort (vs := its) pl.isList (by omega) (ksk_s1 _ _) (fun _ => ksk_l1 _ _) fun E' => ?_
  show wpAny _ _ (Builtin.«list.sort» ⟨[.ref _], [(Str.ofString "key", .ref f)]⟩) _ _ _
  rw [ksk_t1]
  generalize ha : s.heap.objs.size + 1 = a
  have hao : (copyHeap s.heap its).get? a = some (seqObj "list" its.toArray 0) := by rw [← ha]; exact copyHeap_at _ _
  have hsz : (copyHeap s.heap its).objs.size = a + 1 := by
    unfold copyHeap
    rw [size_push', Heap.size_update, size_push', ha]
  obtain ⟨e1, h1⟩ : ∃ e1, ((copyHeap s.heap its).update a (Obj.mapSeq fun _ => (#[] : Array Value))).get? a = some (seqObj "list" #[] e1) := ⟨_, get?_update_seq hao fun _ => #[]⟩
  have hS : (((copyHeap s.heap its).update a (Obj.mapSeq fun _ => (#[] : Array Value))).push (seqObj "tuple" its.toArray 0)).objs.size = a + 2 := by rw [size_push', Heap.size_update, hsz]
  unfold ksk_tree
  refine wpAny_bind (listItems_at hao rfl (wpAny_bind (listUpdate_at hao rfl (wpAny_bind (seqEpoch_at h1 rfl (wpAny_bind (wpAny_newTuple (wpAny_bind (wpAny_newList (wpAny_holding ?_) (Nat.zero_le _))) (by show its.length ≤ sizeLine; omega))))) (by rw [List.size_toArray]; omega) (Nat.zero_le _))))
  have old : ∀ b o, s.heap.get? b = some o → ((((copyHeap s.heap its).update a (Obj.mapSeq fun _ => (#[] : Array Value))).push (seqObj "tuple" its.toArray 0)).push (seqObj "list" #[] 0)).get? b = some o := fun b o e => by
    have hb : b ≠ a := by
      have := Heap.lt_size e
      rw [← ha]
      exact Nat.ne_of_lt (Nat.lt_succ_of_lt this)
    refine Heap.get?_push_of_some _ (Heap.get?_push_of_some _ ?_)
    rw [Heap.get?_update_ne _ _ _ _ hb]
    exact copyHeap_old e
  have hkS : ((((copyHeap s.heap its).update a (Obj.mapSeq fun _ => (#[] : Array Value))).push (seqObj "tuple" its.toArray 0)).push (seqObj "list" #[] 0)).get? (a + 2) = some (seqObj "list" #[] 0) := by
    rw [← hS]
    exact Heap.get?_push_size _ rfl
  have h1' : ((((copyHeap s.heap its).update a (Obj.mapSeq fun _ => (#[] : Array Value))).push (seqObj "tuple" its.toArray 0)).push (seqObj "list" #[] 0)).get? a = some (seqObj "list" #[] e1) := Heap.get?_push_of_some _ (Heap.get?_push_of_some _ h1)
  rw [show (((copyHeap s.heap its).update a (Obj.mapSeq fun _ => (#[] : Array Value))).push { cls := .type "tuple", data := .seq its.toArray }).objs.size = a + 2 from hS]
  have oa : Ours X pins a := ours_of I (by rw [← ha]; exact Nat.le_succ _)
  have oS : Ours X pins (a + 2) := ours_of I (by rw [← ha]; exact Nat.le_add_right _ 3)
  have na : H a = none := I.hok.fresh (by rw [← ha]; exact Nat.le_succ _)
  have nS : H (a + 2) = none := I.hok.fresh (by rw [← ha]; exact Nat.le_add_right _ 3)
  have ok : Ours X ((a, seqObj "list" #[] e1) :: pins) (a + 2) := ⟨oS.loc, oS.new, oS.cel, fun p hp => by
    rcases List.mem_append.mp hp with h | h
    · exact oS.pin p (List.mem_append_left _ h)
    · rcases List.mem_cons.mp h with rfl | h
      · show a ≠ a + 2
        exact Nat.ne_of_lt (Nat.lt_add_of_pos_right (by decide))
      · exact oS.pin p (List.mem_append_right _ h), oS.fs⟩
  have J := (I.kept (t' := s.toks) old).pins_of (pins' := (a + 2, seqObj "list" #[] 0) :: (a, seqObj "list" #[] e1) :: pins) fun p hp => by
    rcases List.mem_cons.mp hp with rfl | hp
    · exact ⟨hkS, nS, oS.loc, oS.fs, fun v z => by cases z⟩
    · rcases List.mem_cons.mp hp with rfl | hp
      · exact ⟨h1', na, oa.loc, oa.fs, fun v z => by cases z⟩
      · obtain ⟨p1, p2⟩ := I.pin p (List.mem_append_right _ hp)
        exact ⟨old _ _ p1, p2⟩
  exact rest_run (k := k) sb F hb oa ok rv hl hne hz hu hsp ⟨H, #[], 0, J, fun _ _ z => z, .nil⟩ fun H1 n1 sm => q a H1 n1 sm
end
end SpX

set_option Elab.async false
set_option linter.all false
set_option maxRecDepth 100000
set_option maxHeartbeats 2000000
/-! sorted(xs, key=f) where f may raise, f a def or a bound method. -/
namespace SpX
open PySem PySem.Spec PyProof.Rows PySem.W L2
section
variable {X : Cx} {CX : CXT} {k : Nat} {f : Addr} {fd : FuncData} {ps : List Str} {sp : Sp} {E : XK} {pins : List (Addr × Obj)} {σ : L2.St} {H : Hp} {s : Shared}
theorem frames_off {l : List Env} {B B' h h' : Heap} (fb : ∀ b, B.get? b = none → B'.get? b = none) (k : ∀ b, B.get? b = none → h'.get? b = h.get? b) : h.FunFrames B l → h'.FunFrames B' l := by
  induction l with
  | nil => exact fun _ => trivial
  | cons e r ih =>
    rintro ⟨h1, ⟨L, o, h2, h3, h4, h5⟩, h6⟩
    exact ⟨h1, ⟨L, o, h2, fb L h3, by rw [k L h3]; exact h4, h5⟩, ih h6⟩
/-- what lay there before the raise lies there behind it -/
theorem cx_there {o : Obj} {b : Addr} {u : Value} {s' : Shared} (I : Inv X pins σ H s) (c : L2.CX X.prog X.w X.stack H s E u s') (hp : (b, o) ∈ pins) : s'.heap.get? b = some o := by
  obtain ⟨a, B, H', cls, d, rfl, fl, hok, ub, na, os, ag, hE⟩ := c
  obtain ⟨p1, p2, p3, p4, _⟩ := I.pin (b, o) (List.mem_append_right _ hp)
  exact fl.1 b o (ub.keep b o p1 p2 fun z => (List.mem_cons.mp (I.stkSub b z)).elim p3 p4)
/-- .. and two of ours may change: the exception goes on -/
theorem xe_clean {W : WX} {a kS : Addr} {o1 o2 : Obj} {u : Value} {s' : Shared} {h' : Heap} {tk : Nat} (I : Inv X ((kS, o1) :: (a, o2) :: pins) σ H s) (oa : Ours X pins a) (ok : Ours X pins kS) (c : L2.CX X.prog X.w X.stack H s E u s')
    (k : ∀ b, b ≠ a → b ≠ kS → h'.get? b = s'.heap.get? b) (hW : ∀ cls d H', E cls d H' → W cls d σ H') : XE X W u { s' with heap := h', toks := tk } := by
  have ha := cx_there I c (.tail _ (.head _))
  have hk := cx_there I c (.head _)
  obtain ⟨fa, fa', ga, ga', _⟩ := I.pin (a, o2) (List.mem_append_right _ (.tail _ (.head _)))
  obtain ⟨fk, fk', gk, gk', _⟩ := I.pin (kS, o1) (List.mem_append_right _ (.head _))
  have na' : a ∉ frs X.stack := fun z => (List.mem_cons.mp (I.stkSub a z)).elim ga ga'
  have nk' : kS ∉ frs X.stack := fun z => (List.mem_cons.mp (I.stkSub kS z)).elim gk gk'
  have J : Inv X pins σ H s := I.pins_of fun p hp => I.pin p (List.mem_append_right _ (.tail _ (.tail _ hp)))
  obtain ⟨a0, B, H', cls, d, rfl, fl, hok, ub, na, os, ag, hE⟩ := c
  have Ba : B.get? a = some o2 := ub.keep a o2 fa fa' na'
  have Bk : B.get? kS = some o1 := ub.keep kS o1 fk fk' nk'
  obtain ⟨B', b1, b2⟩ := restrict B fun b => decide (b ≠ a) && decide (b ≠ kS)
  have bo : ∀ b, b ≠ a → b ≠ kS → B'.get? b = B.get? b := fun b x y => b1 b (by simp [x, y])
  have ba : B'.get? a = none := b2 a (by simp)
  have bk : B'.get? kS = none := b2 kS (by simp)
  have bin : ∀ b o, B'.get? b = some o → b ≠ a ∧ b ≠ kS := fun b o e => ⟨fun z => (by rw [z, ba] at e; cases e), fun z => (by rw [z, bk] at e; cases e)⟩
  have st : B.StaysIn s'.heap := fl.1
  have st' : B'.StaysIn h' := fun b o e => by
    obtain ⟨x, y⟩ := bin b o e
    rw [k b x y]
    exact st b o (by rw [← bo b x y]; exact e)
  have fb : ∀ b, B.get? b = none → B'.get? b = none := fun b e => by
    by_cases x : b = a
    · rw [x]; exact ba
    · by_cases y : b = kS
      · rw [y]; exact bk
      · rw [bo b x y]; exact e
  have off : ∀ b, B.get? b = none → h'.get? b = s'.heap.get? b := fun b e => k b (fun z => by rw [z, Ba] at e; cases e) (fun z => by rw [z, Bk] at e; cases e)
  have fl' : HandSPX.FlyingZ B' X.stack a0 (Zc cls d) h' := by
    obtain ⟨_, e2, e3, oe, vs, T, oT, ts, q1, q2, q3, q4, q5, q6, q7, q8, q9⟩ := fl
    exact ⟨st', fb _ e2, frames_off fb off e3, oe, vs, T, oT, ts, by rw [off _ e2]; exact q1, q2, q3, q4, fb _ q5, q6, by rw [off _ q5]; exact q7, q8, q9⟩
  obtain ⟨G, g1, g2⟩ := restrict h' fun b => (B'.get? b).isSome || decide (b ∈ frs X.stack)
  have gB : ∀ b o, B'.get? b = some o → G.get? b = some o := fun b o e => by
    rw [g1 b (by simp [e])]
    exact st' b o e
  have hin : ∀ b, b ∉ [a, kS] → b ≠ a ∧ b ≠ kS := fun b h => ⟨fun e => h (by simp [e]), fun e => h (by simp [e])⟩
  have hfr : ∀ b, b ∈ frs X.stack → b ≠ a ∧ b ≠ kS := fun b h => ⟨fun z => na' (z ▸ h), fun z => nk' (z ▸ h)⟩
  have gF : ∀ b, b ∈ frs X.stack → G.get? b = s'.heap.get? b := fun b hb => by
    rw [g1 b (by simp [hb])]
    exact k b (hfr b hb).1 (hfr b hb).2
  have og : ∀ b o, G.get? b = some o → h'.get? b = some o ∧ ((B'.get? b).isSome = true ∨ b ∈ frs X.stack) := fun b o e => by
    cases q : ((B'.get? b).isSome || decide (b ∈ frs X.stack)) with
    | false => rw [g2 b q] at e; cases e
    | true =>
      rw [g1 b q] at e
      exact ⟨e, by simpa [Bool.or_eq_true] using q⟩
  refine ⟨a0, B', { s with heap := G, gens := s'.gens, drawn := s'.drawn, toks := s'.toks }, pins, σ, H', cls, d, rfl, ?_, fun b o e hb => ?_, Heap.UpToSlots.of_keeps fun b o e => (og b o e).1, .inr (.inl fl'), na, os, ag, hW _ _ _ hE⟩
  · have nH : ∀ b, b ∈ [a, kS] → H b = none := fun b hb => by
      rcases List.mem_cons.mp hb with z | z
      · rw [z]; exact fa'
      · rw [List.mem_singleton.mp z]; exact fk'
    have hB' : ∀ b o, b ∉ [a, kS] → B.get? b = some o → B'.get? b = some o := fun b o hb e => by rw [bo b (hin b hb).1 (hin b hb).2]; exact e
    refine J.call (ch := [a, kS]) ⟨fun b o e n hb hc => gB b o (hB' b o hc (ub.keep b o e n hb)), fun b o e n hb _ => ?_, fun b o e n _ => ub.free b o e n, fun b o e hc => ?_, ub.tups, ub.frzs, ub.tbls⟩ ?_ ag fun b hb => ?_
    · obtain ⟨sl, q⟩ := ub.slot b o e hb
      exact ⟨sl, by rw [gF b hb]; exact q⟩
    · by_cases hb : b ∈ frs X.stack
      · obtain ⟨sl, q⟩ := ub.slot b o e hb
        exact ⟨_, by rw [gF b hb]; exact q⟩
      · obtain ⟨o', q⟩ := ub.there b o e hb
        exact ⟨o', gB b o' (hB' b o' hc q)⟩
    · have na2 : H' a = none := ub.free a o2 fa fa'
      have nk2 : H' kS = none := ub.free kS o1 fk fk'
      intro b o e
      refine (hok b o e).stay (fun x v hx q => ?_) (fun _ z => z) fun _ _ z => z
      have hx' : x ∉ [a, kS] := fun z => by
        have hn : H' x = none := by
          rcases List.mem_cons.mp z with w | w
          · rw [w]; exact na2
          · rw [List.mem_singleton.mp w]; exact nk2
        rcases hx with w | w
        · rw [w, e] at hn; cases hn
        · rw [w] at hn; cases hn
      exact gB x v (hB' x v hx' q)
    · rcases List.mem_cons.mp hb with e | e
      · subst e
        exact ⟨.inr oa.new, oa.loc, oa.cel, oa.pin⟩
      · rw [List.mem_singleton.mp e]
        exact ⟨.inr ok.new, ok.loc, ok.cel, ok.pin⟩
  · obtain ⟨e', h⟩ := og b o e
    rcases h with h | h
    · obtain ⟨o', q⟩ := Option.isSome_iff_exists.mp h
      have z := st' b o' q
      rw [e'] at z; cases z
      exact q
    · exact absurd h hb
/-- the callee fv called at x (u) in any later heap: the key kk, and then g holds; or out by E -/
def KTurn (X : Cx) (pins : List (Addr × Obj)) (σ : L2.St) (A : Around) (E : XK) (fv : Value) (H0 : Hp) (u : Value) (kk : List Int) (g : Prop) : Prop := ∀ (Hj : Hp) (s : Shared), Inv X pins σ Hj s → Same H0 Hj →
  wpAny (model X.prog X.w) A (call fv [u]) (EP X pins σ fun v H2 => g ∧ Same Hj H2 ∧ ∃ q, v = .ref q ∧ H2 q = some (.tup (kk.map V.int))) (fun e s' => L2.CX X.prog X.w X.stack Hj s E e s') s
def KeyLoopE (X : Cx) (pins : List (Addr × Obj)) (σ : L2.St) (H : Hp) (a kS : Addr) (oa : Obj) (ks : List (List Int)) (G : Nat → Prop) (j : Nat) (s : Shared) : Prop :=
  KeyLoop X pins σ H a kS oa ks j s ∧ ∀ i, i < j → G i
theorem rest_runE {A : Around} {a kS : Addr} {e1 : Nat} {H0 : Hp} {xs : List V} {ks : List (List Int)} {G : Nat → Prop} {vs : List Value} {fv : Value} {Q : VK} {W : WX}
    (oa : Ours X pins a) (ok : Ours X ((a, seqObj "list" #[] e1) :: pins) kS) (tk : Takes X W) (rv : Vals xs vs) (hl : ks.length = xs.length) (hne : ∀ k ∈ ks, k ≠ []) (hz : xs.length ≤ sizeLine) (hu : A.units + 64 < cLine)
    (hW : ∀ cls d H', E cls d H' → W cls d σ H')
    (turn : ∀ (i : Nat) (x : V) (u : Value) (kk : List Int) (kA : Array Value) (e : Nat), xs[i]? = some x → ks[i]? = some kk → RelV x u → KTurn X ((kS, seqObj "list" kA e) :: (a, seqObj "list" #[] e1) :: pins) σ A E fv H0 u kk (G i))
    (h0 : KeyLoop X pins σ H0 a kS (seqObj "list" #[] e1) ks 0 s) (q : ∀ H1, H1 a = none → Same H0 H1 → (∀ i, i < xs.length → G i) → Q (.ref a) (upd H1 a (.lst (sortBy xs ks)))) :
    wpAny (model X.prog X.w) A (ksk_rest a fv false vs.toArray e1 (.ref kS)) (fun r s' => r = .done (.ret .none) ∧ EP X pins σ Q (.ref a) s') X.xe s := by
  have hlv := rv.length
  have ne : kS ≠ a := fun z => ok.pin (a, seqObj "list" #[] e1) (List.mem_append_right _ (.head _)) z.symm
  have ok' : Ours X pins kS := ⟨ok.loc, ok.new, ok.cel, fun p hp => ok.pin p (by
    rcases List.mem_append.mp hp with h | h
    · exact List.mem_append_left _ h
    · exact List.mem_append_right _ (.tail _ h)), ok.fs⟩
  unfold ksk_rest
  refine wpAny_bind (wpAny_rule ?_)
  rw [← Array.forIn_toList]
  refine wpAny_bind (ksk_fold (fun j s' => KeyLoopE X pins σ H0 a kS (seqObj "list" #[] e1) ks G j s') vs 0 s ⟨h0, fun i hi => absurd hi (Nat.not_lt_zero i)⟩ (fun j u s' hu' hL => ?_) fun s' hL => ?_)
  · rw [Nat.zero_add] at hL ⊢
    obtain ⟨⟨Hj, kA, e, I, sm, hk⟩, hG⟩ := hL
    have hj : j < xs.length := by
      have := (List.getElem?_eq_some_iff.mp hu').1
      omega
    have hx : xs[j]? = some xs[j] := List.getElem?_eq_getElem hj
    obtain ⟨u', e', ru⟩ := rv.get hx
    rw [hu'] at e'
    obtain rfl : u = u' := Option.some.inj e'
    generalize xs[j] = x at hx ru
    obtain ⟨kk, hkk⟩ : ∃ kk, ks[j]? = some kk := ⟨_, List.getElem?_eq_getElem (by omega)⟩
    have hsz : kA.size ≤ sizeLine := by
      have h1 := hk.length
      rw [Array.length_toList, List.length_take] at h1
      omega
    refine wpAny_bind (wpAny_attempt (wpAny_mono (turn j x u kk kA e hx hkk ru Hj s' I sm) (fun v s2 got => ?_) fun er s2 c => ?_))
    · obtain ⟨w, H2, I2, rw2, g, sm2, q', rfl, hq⟩ := got
      obtain rfl : v = Value.ref q' := rw2
      have nk := (I2.pin (kS, _) (List.mem_append_right _ (.head _))).1
      have sb' := Heap.SameBut.update s2.heap kS (Obj.mapSeq (·.push (Value.ref q')))
      refine wpAny_bind (listUpdate_at nk rfl (wpAny_pure ⟨rfl, ⟨H2, kA.push (.ref q'), _, repin (t' := s2.toks) I2 ok (fun b o hb eb => (sb'.2 b hb).trans eb) (get?_update_seq nk (·.push (Value.ref q'))) (fun v z => by cases z), sm.trans sm2, ?_⟩, fun i hi => ?_⟩) hsz (by rw [Array.size_push]; omega))
      · rw [Array.toList_push]
        exact each_take (hk.mono fun v k h => h.same sm2) hkk ⟨q', rfl, hq⟩
      · rcases Nat.lt_succ_iff_lt_or_eq.mp hi with h | h
        · exact hG i h
        · rw [h]; exact g
    · have nk := cx_there I c (.head _)
      have na := cx_there I c (.tail _ (.head _))
      have s1 := Heap.SameBut.update s2.heap kS (Obj.mapSeq fun _ => (#[] : Array Value))
      have na1 : (s2.heap.update kS (Obj.mapSeq fun _ => (#[] : Array Value))).get? a = some (seqObj "list" #[] e1) := (s1.2 a ne.symm).trans na
      have s3 := Heap.SameBut.update (s2.heap.update kS (Obj.mapSeq fun _ => (#[] : Array Value))) a (Obj.mapSeq fun _ => vs.toArray)
      refine wpAny_bind (wpAny_rule (wpAny_bind (listItems_at nk rfl (wpAny_bind (listUpdate_at nk rfl (wpAny_bind (wpAny_letGo (wpAny_bind (listUpdate_at na1 rfl ?_ (Nat.zero_le _) (by rw [List.size_toArray]; omega))))) hsz (Nat.zero_le _))))))
      refine wpAny_throw (tk _ _ (xe_clean (W := W) (s' := s2) (tk := s2.toks) I oa ok' c (fun b h1 h2 => ?_) hW))
      exact (s3.2 b h1).trans (s1.2 b h2)
  · rw [Nat.zero_add] at hL
    obtain ⟨⟨Hn, kA, e, I, sm, hk⟩, hG⟩ := hL
    obtain ⟨nk, fk, _⟩ := I.pin (kS, _) (List.mem_append_right _ (.head _))
    obtain ⟨na, fa, _⟩ := I.pin (a, _) (List.mem_append_right _ (.tail _ (.head _)))
    rw [List.take_of_length_le (by omega)] at hk
    have J : Inv X pins σ Hn s' := I.pins_of fun p hp => I.pin p (List.mem_append_right _ (.tail _ (.tail _ hp)))
    have hkr : EachIs (fun v d => ∃ as, Reads s'.heap v d as) kA.toList (ks.map tupD) := each_map (hk.mono fun v k h => h.reads J)
    have hks : kA.size = vs.length := by
      have := hk.length
      rw [Array.length_toList] at this
      omega
    refine wpAny_bind (listItems_at nk rfl ?_)
    have hf : ∀ b, b ≠ kS → (s'.heap.update kS fun o => { o with data := .freed }).get? b = s'.heap.get? b := fun b hb => Heap.get?_update_ne _ _ _ _ hb
    refine keyH_end (κ := dataKind s'.heap (ks.map tupD)) (h₁ := s'.heap.update kS fun o => { o with data := .freed }) (fun b o _ eb => ?_) freed_none nk na ne (SortsAt.data hkr (alike_tups ks) (sortable_tups hne) fun d hd => ?_) hks (by omega) fun h' tk c kp hc => ⟨rfl, ?_⟩
    · by_cases hb : b = kS
      · rw [hb, freed_none] at eb
        cases eb
      · rw [← hf b hb]
        exact eb
    · obtain ⟨k, _, rfl⟩ := List.mem_map.mp hd
      have := depth_tup k
      omega
    · have ho := sort_out xs ks rv hl hkr rfl
      exact ⟨.ref a, upd Hn a (.lst (sortBy xs ks)), inv_sorted J oa ok' fa fk (fun b o h1 h2 eb => kp b o h1 (by rw [hf b h2]; exact eb)) ⟨by rw [sortBy_length xs ks hl]; exact hz, _, c, ho, hc⟩, rfl, q Hn fa sm fun i hi => hG i (by omega)⟩
/-- sorted(xs, key=fv), E its way out -/
theorem sorted_runE {fv : Value} {W : WX} {Q : VK} {l : Addr} {xs : List V} {ks : List (List Int)} {G : Nat → Prop} (ht : ∀ a, Builtin.«list.sort» ⟨[.ref a], [(Str.ofString "key", fv)]⟩ = ksk_tree a fv false) (tk : Takes X W) (hu : X.A.in1.in1.units + 64 < cLine) (hW : ∀ cls d H', E cls d H' → W cls d σ H')
    (I : Inv X pins σ H s) (hs : SqL X.K H l xs) (hl : ks.length = xs.length) (hne : ∀ k ∈ ks, k ≠ [])
    (turn : ∀ (pins' : List (Addr × Obj)) (i : Nat) (x : V) (u : Value) (kk : List Int), xs[i]? = some x → ks[i]? = some kk → RelV x u → KTurn X pins' σ X.A.in1.in1 E fv H u kk (G i))
    (q : ∀ (a : Addr) (H1 : Hp), H1 a = none → Same H H1 → (∀ i, i < xs.length → G i) → Q (.ref a) (upd H1 a (.lst (sortBy xs ks)))) :
    wpAny (model X.prog X.w) X.A (call (.builtin "sorted") [.ref l] [(Str.ofString "key", fv)]) (EP X pins σ Q) X.xe s := by
  obtain ⟨its, rv, pl, hz⟩ := I.list hs
  have hlv := rv.length
  have hzi : its.length ≤ sizeLine := by omega
  generalize ha : s.heap.objs.size + 1 = a
  have hao : (copyHeap s.heap its).get? a = some (seqObj "list" its.toArray 0) := by rw [← ha]; exact copyHeap_at _ _
  have hcs : ((s.heap.push (seqObj "list" #[] 0)).update s.heap.objs.size (Obj.mapSeq (· ++ its.toArray))).objs.size = a := by rw [Heap.size_update, size_push', ha]
  have hsz : (copyHeap s.heap its).objs.size = a + 1 := by
    unfold copyHeap
    rw [size_push', hcs]
  refine call_function_entry_kw kind_sorted plain_sorted entry_sorted (ksk_s1 _ _) ?_
  unfold Builtin.«sorted»
  refine wpAny_bind (m := checkCount "sorted" 1 1 _) (wpAny_pure (wpAny_bind (collect_list pl.isList (wpAny_bind (wpAny_newList ?_ hzi)) hzi)))
  show wpAny _ _ _ _ _ { s with heap := copyHeap s.heap its }
  rw [hcs]
  obtain ⟨e1, h1⟩ : ∃ e1, ((copyHeap s.heap its).update a (Obj.mapSeq fun _ => (#[] : Array Value))).get? a = some (seqObj "list" #[] e1) := ⟨_, get?_update_seq hao fun _ => #[]⟩
  have hS : (((copyHeap s.heap its).update a (Obj.mapSeq fun _ => (#[] : Array Value))).push (seqObj "tuple" its.toArray 0)).objs.size = a + 2 := by rw [size_push', Heap.size_update, hsz]
  refine wpAny_bind (wpAny_holding (wpAny_call_entry_kw slot_list_sort ⟨_, hao, rfl⟩ entry_list_sort ?_ (ksk_l1 _ _)))
  show wpAny (model X.prog X.w) X.A.in1.in1 (Builtin.«list.sort» ⟨[.ref a], [(Str.ofString "key", fv)]⟩) _ _ _
  rw [ht]
  have fin : ∀ {P : PySem.Fin → Shared → Prop}, wpAny (model X.prog X.w) X.A.in1.in1 (ksk_tree a fv false) (fun r s' => r = .done (.ret .none) ∧ EP X pins σ Q (.ref a) s') X.xe { s with heap := copyHeap s.heap its } → (∀ s', EP X pins σ Q (.ref a) s' → P (.done (.ret .none)) s') → wpAny (model X.prog X.w) X.A.in1.in1 (ksk_tree a fv false) P X.xe { s with heap := copyHeap s.heap its } := fun h k => wpAny_mono h (fun r s' ⟨e, z⟩ => by rw [e]; exact k s' z) fun _ _ z => z
  refine fin ?_ fun s' z => ⟨_, rfl, wpAny_pure ⟨_, rfl, z⟩⟩
  unfold ksk_tree
  refine wpAny_bind (listItems_at hao rfl (wpAny_bind (listUpdate_at hao rfl (wpAny_bind (seqEpoch_at h1 rfl (wpAny_bind (wpAny_newTuple (wpAny_bind (wpAny_newList (wpAny_holding ?_) (Nat.zero_le _))) (by show its.length ≤ sizeLine; omega))))) (by rw [List.size_toArray]; omega) (Nat.zero_le _))))
  have old : ∀ b o, s.heap.get? b = some o → ((((copyHeap s.heap its).update a (Obj.mapSeq fun _ => (#[] : Array Value))).push (seqObj "tuple" its.toArray 0)).push (seqObj "list" #[] 0)).get? b = some o := fun b o e => by
    have hb : b ≠ a := by
      have := Heap.lt_size e
      rw [← ha]
      exact Nat.ne_of_lt (Nat.lt_succ_of_lt this)
    refine Heap.get?_push_of_some _ (Heap.get?_push_of_some _ ?_)
    rw [Heap.get?_update_ne _ _ _ _ hb]
    exact copyHeap_old e
  have hkS : ((((copyHeap s.heap its).update a (Obj.mapSeq fun _ => (#[] : Array Value))).push (seqObj "tuple" its.toArray 0)).push (seqObj "list" #[] 0)).get? (a + 2) = some (seqObj "list" #[] 0) := by
    rw [← hS]
    exact Heap.get?_push_size _ rfl
  have h1' : ((((copyHeap s.heap its).update a (Obj.mapSeq fun _ => (#[] : Array Value))).push (seqObj "tuple" its.toArray 0)).push (seqObj "list" #[] 0)).get? a = some (seqObj "list" #[] e1) := Heap.get?_push_of_some _ (Heap.get?_push_of_some _ h1)
  rw [show (((copyHeap s.heap its).update a (Obj.mapSeq fun _ => (#[] : Array Value))).push { cls := .type "tuple", data := .seq its.toArray }).objs.size = a + 2 from hS]
  have oa : Ours X pins a := ours_of I (by rw [← ha]; exact Nat.le_succ _)
  have oS : Ours X pins (a + 2) := ours_of I (by rw [← ha]; exact Nat.le_add_right _ 3)
  have na : H a = none := I.hok.fresh (by rw [← ha]; exact Nat.le_succ _)
  have nS : H (a + 2) = none := I.hok.fresh (by rw [← ha]; exact Nat.le_add_right _ 3)
  have ok : Ours X ((a, seqObj "list" #[] e1) :: pins) (a + 2) := ⟨oS.loc, oS.new, oS.cel, fun p hp => by
    rcases List.mem_append.mp hp with h | h
    · exact oS.pin p (List.mem_append_left _ h)
    · rcases List.mem_cons.mp h with rfl | h
      · show a ≠ a + 2
        exact Nat.ne_of_lt (Nat.lt_add_of_pos_right (by decide))
      · exact oS.pin p (List.mem_append_right _ h), oS.fs⟩
  have J := (I.kept (t' := s.toks) old).pins_of (pins' := (a + 2, seqObj "list" #[] 0) :: (a, seqObj "list" #[] e1) :: pins) fun p hp => by
    rcases List.mem_cons.mp hp with rfl | hp
    · exact ⟨hkS, nS, oS.loc, oS.fs, fun v z => by cases z⟩
    · rcases List.mem_cons.mp hp with rfl | hp
      · exact ⟨h1', na, oa.loc, oa.fs, fun v z => by cases z⟩
      · obtain ⟨p1, p2⟩ := I.pin p (List.mem_append_right _ hp)
        exact ⟨old _ _ p1, p2⟩
  exact rest_runE (E := E) (G := G) oa ok tk rv hl hne hz hu hW (fun i x u kk kA e h1 h2 h3 => turn _ i x u kk h1 h2 h3) ⟨H, #[], 0, J, fun _ _ z => z, .nil⟩ fun H1 n1 sm hG => q a H1 n1 sm hG
/-- sorted(xs, key=x.m): q the bound method, g of a; ks the keys, G what each call tells -/
def rSortMeth (K : PySem.W.Frag) (g : Addr) (sp : Sp) (E : XK) : List V → List V → Hp → VK → Prop := fun vs zs H Q => ∃ (l q a : Addr) (xs : List V) (ks : List (List Int)) (G : Nat → Prop), vs = [.ref l] ∧ zs = [.ref q] ∧ H q = some (.met g a) ∧ SqL K H l xs ∧ ks.length = xs.length ∧ (∀ k ∈ ks, k ≠ []) ∧
  (∀ (i : Nat) (x : V) (k : List Int) (H1 : Hp), xs[i]? = some x → ks[i]? = some k → Same H H1 → sp [.ref a, x] H1 (fun v H2 => G i ∧ Same H1 H2 ∧ ∃ q, v = .ref q ∧ H2 q = some (.tup (k.map V.int))) E) ∧
  ∀ (p : Addr) (H1 : Hp), H1 p = none → Same H H1 → (∀ i, i < xs.length → G i) → Q (.ref p) (upd H1 p (.lst (sortBy xs ks)))
theorem cr_sortedM (F : FnOk X.prog X.w X.K X.mg X.base (L2.CX X.prog X.w) k f fd ps sp) (hr : Room (k + 2) X.A) (hb : Binds X.K fd ps []) (tk : Takes X fun cls d _ H => E cls d H) : CallRK X (.builtin "sorted") [Str.ofString "key"] (rSortMeth X.K f sp E) := by
  intro pins s σ H vs zs us ws Q I r rz h
  obtain ⟨l, q, a, xs, ks, G, rfl, rfl, hq, hs, hl, hne, hsp, hQ⟩ := h
  obtain rfl := Vals.ref1 r
  obtain ⟨w1, rfl, rw1⟩ := vals1 rz
  obtain rfl : w1 = Value.ref q := rw1
  have sb : Sub X k X.A.in1.in1 := Sub.in1 (Sub.in1 (⟨hr, rfl⟩ : Sub X (k + 2) X.A))
  refine sorted_runE (E := E) (G := G) (fun a => ksk_t1 q a) tk sb.room.units (fun _ _ _ z => z) I hs hl hne (fun pins' i x u kk hx hkk ru Hj s' I' sm => ?_) fun a' H1 n1 sm hG => hQ a' H1 n1 sm hG
  have hsp' := hsp i x kk Hj hx hkk sm
  have e0 : Env0 X.prog X.w X.K X.mg X.base X.A.in1.in1 X.stack s' Hj := by
    have e := I'.env0
    exact ⟨by rw [sb.fr]; exact e.frames, e.mod, e.bs, e.bsz, e.funs, e.frf, e.hok, e.bare⟩
  have hlen := F.len _ _ _ _ hsp'
  have r2 : Vals [.ref a, x] [Value.ref a, u] := .cons rfl (.cons ru .nil)
  have b := hb s' [Value.ref a, u] I'.kIn (by rw [List.append_nil, ← r2.length]; exact hlen)
  rw [List.append_nil] at b
  refine wpAny_call (call_met I' (sm _ _ hq) (codeAny_mono (F.run X.A.in1.in1 X.stack s' Hj ⟨[Value.ref a, u], []⟩ [Value.ref a, u] [.ref a, x] _ E sb.room e0 b r2 hsp') fun r s2 hq2 => ?_))
  cases r with
  | error e => exact hq2
  | ok fl =>
    cases fl with
    | ret u => exact I'.after hq2
    | next => exact False.elim hq2
    | brk => exact False.elim hq2
    | cont => exact False.elim hq2
end
end SpX

set_option Elab.async false
set_option linter.all false
set_option maxRecDepth 100000
set_option maxHeartbeats 2000000
/-! range and list(range) as values, x.m as a value, in and != of plain things. -/
namespace SpX
open PySem PySem.Spec PyProof.Rows L2
section
variable {X : Cx}
def rRangeV : List V → Hp → VK → Prop := fun vs H Q => ∃ n : Int, vs = [.int n] ∧ ∀ p, H p = none → Q (.ref p) (upd H p (.rng 0 n))
theorem cr_rangeV : CallR X (.type "range") rRangeV := by
  intro pins s σ H vs us Q I r h
  obtain ⟨n, rfl, q⟩ := h
  obtain ⟨u, rfl, t, rfl⟩ := vals1 r
  refine call_range_1 ⟨.ref s.heap.objs.size, upd H s.heap.objs.size (.rng 0 n), I.laid (t' := s.toks + 1 + 1) (fun b o e => Heap.get?_push_of_some _ e) (Nat.le_refl _) ?_, rfl, q _ (I.hok.fresh (Nat.le_refl _))⟩
  exact ⟨s.toks, t, s.toks + 1, Heap.get?_push_size _ rfl⟩
def upTo (n : Int) : List V := (List.range n.toNat).map fun i : Nat => V.int (i : Int)
def rListR : List V → Hp → VK → Prop := fun vs H Q => ∃ (p : Addr) (n : Int), vs = [.ref p] ∧ H p = some (.rng 0 n) ∧ 0 ≤ n ∧ n ≤ 1000 ∧ ∀ l, H l = none → Q (.ref l) (upd H l (.lst (upTo n)))
theorem vals_items : ∀ (n k : Nat) (l : List Value), l.length = n → (∀ j v, l[j]? = some v → ∃ t, v = Value.int (((k + j : Nat)) : Int) t) → Vals ((List.range' k n).map fun i : Nat => V.int (i : Int)) l
  | 0, _, [], _, _ => .nil
  | 0, _, _ :: _, h, _ => by simp at h
  | _ + 1, _, [], h, _ => by simp at h
  | n + 1, k, v :: l, h, hi => by
    rw [List.range'_succ, List.map_cons]
    refine .cons ?_ (vals_items n (k + 1) l (by simpa using h) fun j w hw => ?_)
    · obtain ⟨t, e⟩ := hi 0 v rfl
      exact ⟨t, by simpa using e⟩
    · obtain ⟨t, e⟩ := hi (j + 1) w (by simpa using hw)
      exact ⟨t, by rw [e, show k + (j + 1) = k + 1 + j by omega]⟩
theorem call_listR (hc : X.calm = true) : CallR X (.type "list") rListR := by
  intro pins s σ H vs us Q I r h
  obtain ⟨p, n, rfl, hp, h0, h1, q⟩ := h
  obtain rfl := Vals.ref1 r
  obtain ⟨t, u, v, e⟩ := I.hok p _ hp
  obtain ⟨m, rfl⟩ := Int.eq_ofNat_of_zero_le h0
  have hs : Builtin.Range.rangeSize 0 (m : Int) 1 = m := by
    unfold Builtin.Range.rangeSize
    split <;> simp <;> omega
  refine call_list_range (n := m) (I.ok.hd hc) e ?_ (by rw [hs]) (Nat.le_trans (show m ≤ 1000 by omega) (by decide)) fun h' tk acc c' k e' hi => ?_
  · unfold Builtin.Range.small
    rw [hs]
    have hf : ∀ x : Int, 0 ≤ x → x ≤ 1000 → Builtin.Range.rangeFitsLong x = true := fun x a b => by
      unfold Builtin.Range.rangeFitsLong
      simp
      omega
    rw [hf 0 (by decide) (by decide), hf m h0 h1, hf 1 (by decide) (by decide), if_pos (by decide), hf (m + (1 - 1)) (by omega) (by omega)]
    simp
  · have hl : acc.toList.length = m := by rw [Array.length_toList]; exact hi.1
    have hv : Vals (upTo (m : Int)) acc.toList := by
      have := vals_items m 0 acc.toList hl fun j w hw => by
        obtain ⟨t, z⟩ := hi.2 j w (by rwa [Array.getElem?_toList] at hw)
        exact ⟨t, by rw [z]; simp⟩
      unfold upTo
      rw [List.range_eq_range']
      exact this
    refine ⟨.ref _, upd H s.heap.objs.size (.lst (upTo m)), I.laid (t' := tk) k (Nat.le_refl _) ⟨?_, acc.toList, c', hv, e'⟩, rfl, q _ (I.hok.fresh (Nat.le_refl _))⟩
    rw [hv.length, hl]
    exact Nat.le_trans (show m ≤ 1000 by omega) (by decide)
/-- x.m as a value, m a method of C -/
def tBound (C : Addr) (m : Str) (g : Addr) (to : TE) : TE := fun σ H Q => to σ H fun x H1 => ∃ a dx fs, x = .ref a ∧ H1 a = some (.ins C dx fs) ∧ fs.lookup m = none ∧ ∀ p, H1 p = none → Q (.ref p) (upd H1 p (.met g a))
theorem pe_bound {C g : Addr} {m : Str} {e : Expr} {to : TE} {pos : Pos} (ho : PE X e to) (c : Cls X.K C) (k : BMeth X.K C m g) (hb : attributeBase e m X.env (eval e X.env) = eval e X.env) : PE X (.Attribute e m pos) (tBound C m g to) := by
  refine ⟨fun pins s σ H Q I h => attr_of hb (thn (ho.run pins s σ H _ I h) fun u s1 got => ?_)⟩
  obtain ⟨x, H1, I1, rx, a, dx, fs, rfl, ea, l, q⟩ := got
  exact op_getbound I1 ea c k l rx q
def rInP (K : PySem.W.Frag) : R2 := fun x y H Q => ∃ d ds, Dp K H x d ∧ Dp K H y (.list ds) ∧ d.plain = true ∧ PyData.plainAll ds = true ∧ d.depth ≤ 60 ∧ Q (.bl (ds.any fun z => PyData.eqv z d)) H
def rNotInP (K : PySem.W.Frag) : R2 := fun x y H Q => ∃ d ds, Dp K H x d ∧ Dp K H y (.list ds) ∧ d.plain = true ∧ PyData.plainAll ds = true ∧ d.depth ≤ 60 ∧ Q (.bl (!ds.any fun z => PyData.eqv z d)) H
def rNeP (K : PySem.W.Frag) : R2 := fun x y H Q => ∃ d e, Dp K H x d ∧ Dp K H y e ∧ PyData.plain d = true ∧ PyData.plain e = true ∧ d.depth ≤ 64 ∧ Q (.bl (!PyData.eqv d e)) H
theorem op_inP (hu : X.A.units + 64 < cLine) : OpR X (compareOp .In) (rInP X.K) := by
  intro pins s σ H x y v u Q I rx ry h
  obtain ⟨d, ds, hd, he, pd, pl, l, q⟩ := h
  obtain ⟨as, r1⟩ := Dp.reads I d x v hd rx
  obtain ⟨bs, r2⟩ := Dp.reads I (.list ds) y u he ry
  exact SeqAt.in_list_data r2 r1 pl pd (by omega) ⟨.bl _, H, I, rfl, q⟩
theorem op_notInP (hu : X.A.units + 64 < cLine) : OpR X (compareOp .NotIn) (rNotInP X.K) := by
  intro pins s σ H x y v u Q I rx ry h
  obtain ⟨d, ds, hd, he, pd, pl, l, q⟩ := h
  obtain ⟨as, r1⟩ := Dp.reads I d x v hd rx
  obtain ⟨bs, r2⟩ := Dp.reads I (.list ds) y u he ry
  exact SeqAt.notIn_list_data r2 r1 pl pd (by omega) ⟨.bl _, H, I, rfl, q⟩
theorem op_neP (hu : X.A.units + 64 < cLine) : OpR X (compareOp .NotEq) (rNeP X.K) := by
  intro pins s σ H x y v u Q I rx ry h
  obtain ⟨d, e, hd, he, sd, se, l, q⟩ := h
  obtain ⟨as, r1⟩ := Dp.reads I d x v hd rx
  obtain ⟨bs, r2⟩ := Dp.reads I e y u he ry
  exact SeqAt.ne_plain r1 r2 sd se (by omega) ⟨.bl _, H, I, rfl, q⟩
/-! ### rows of ints as data -/
theorem plain_ints : ∀ k : List Int, PyData.plainAll (k.map PyData.int) = true
  | [] => rfl
  | _ :: r => plain_ints r
theorem plain_tup (k : List Int) : PyData.plain (tupD k) = true := plain_ints k
theorem plain_tups : ∀ ks : List (List Int), PyData.plainAll (ks.map tupD) = true
  | [] => rfl
  | k :: r => by
    show (PyData.plain (tupD k) && PyData.plainAll (r.map tupD)) = true
    rw [plain_tup, plain_tups r]
    rfl
theorem eqv_ints : ∀ a b : List Int, PyData.eqvAll (a.map PyData.int) (b.map PyData.int) = decide (a = b) := PySem.W.ked_eqvAll
theorem eqv_tup (a b : List Int) : PyData.eqv (tupD a) (tupD b) = decide (a = b) := by
  unfold tupD
  rw [PyData.eqv, eqv_ints]
theorem eqv_tups : ∀ a b : List (List Int), PyData.eqvAll (a.map tupD) (b.map tupD) = decide (a = b)
  | [], [] => by simp [PyData.eqvAll]
  | [], _ :: _ => by simp [PyData.eqvAll]
  | _ :: _, [] => by simp [PyData.eqvAll]
  | x :: r, y :: t => by
    simp only [List.map_cons, PyData.eqvAll, eqv_tup, eqv_tups r t]
    by_cases h : x = y <;> by_cases h' : r = t <;> simp [h, h']
end
end SpX

set_option Elab.async false
set_option linter.all false
set_option maxRecDepth 100000
set_option maxHeartbeats 2000000
namespace SpX
open PySem PySem.Spec L2 StX RZ
theorem x_never {D : Ends} {σ : L2.St} {H : Hp} : tNever D σ H = False := rfl
def tRaise0 (Z : Addr) (E : XK) : TS := fun _ _ H => E (.ref Z) none H
/-- exponents -/
abbrev ExpAt (H : Hp) (p : Addr) (ns : List Int) : Prop := H p = some (.tup (ns.map V.int))
/-! ### comprehensions whose element changes nothing -/
theorem wipe1 {σ : L2.St} {i : Nat} {x : V} : wipe ((wipe σ [i]).set i (some x)) [i] = wipe σ [i] := by
  show ((σ.set i none).set i (some x)).set i none = σ.set i none
  rw [List.set_set, List.set_set]
theorem lc_pureT {K : PySem.W.Frag} {tv te : TE} {σ : L2.St} {H : Hp} {Q : VK} {p : Addr} {xs : List V} {i : Nat} (f : Nat → V) (hv : ∀ Q : VK, tv σ H Q = Q (.ref p) H) (h : H p = some (.tup xs)) (hl : xs.length < 1000)
    (he : ∀ j x (H' : Hp) (QQ : VK), xs[j]? = some x → Same H H' → QQ (f j) H' → te ((wipe σ [i]).set i (some x)) H' QQ) (k : ∀ D H', Same H H' → H' D = some (.lst ((List.range xs.length).map f)) → Q (.ref D) H') : tLc (iTup K tv) (gName i) tYes te [i] σ H Q := by
  show tv σ H _
  rw [hv]
  refine ⟨p, rfl, ⟨_, SqT.at h⟩, fun D hD => lc_tup (K := K) (a := p) (xs := xs) (fun j H' => Same H H' ∧ H' D = some (.lst ((List.range j).map f))) ⟨Same.new hD, upd_same⟩ (fun j H' _ s => SqT.at (s.1 _ _ h)) (fun j x H' hj s => ?_) fun H' s => k D H' s.1 s.2⟩
  refine ⟨wipe1, ?_⟩
  unfold tYes
  dsimp only
  rw [if_pos rfl]
  refine he j x H' _ hj s.1 ⟨_, s.2, ?_, ?_, ?_⟩
  · have := (List.getElem?_eq_some_iff.mp hj).1
    rw [List.length_map, List.length_range]
    exact Nat.lt_of_lt_of_le (show j < 1000 by omega) (by decide)
  · intro b o e
    rw [upd_ne (ne_of_none e hD)]
    exact s.1 _ _ e
  · rw [upd_same, List.range_succ, List.map_append]
    rfl
theorem range_map {α β : Type} {l : List α} {f : Nat → β} {g : α → β} (h : ∀ j x, l[j]? = some x → f j = g x) : (List.range l.length).map f = l.map g := by
  refine List.ext_getElem? fun j => ?_
  rw [List.getElem?_map, List.getElem?_map]
  by_cases hj : j < l.length
  · rw [List.getElem?_range hj, List.getElem?_eq_getElem hj]
    exact congrArg some (h j _ (List.getElem?_eq_getElem hj))
  · rw [List.getElem?_eq_none (by rw [List.length_range]; omega), List.getElem?_eq_none (by omega)]
    rfl
theorem int_at {ns : List Int} {j : Nat} {x : V} (h : (ns.map V.int)[j]? = some x) : ∃ z, ns[j]? = some z ∧ x = .int z := by
  rw [List.getElem?_map] at h
  cases e : ns[j]? with
  | none => rw [e] at h; cases h
  | some z => rw [e] at h; exact ⟨z, rfl, (Option.some.inj h).symm⟩
/-! ### checks -/
def spChk (Z : Addr) : Sp := fun vs H Q E => ∃ d : Int, vs = [.int d] ∧ (¬(1 ≤ d ∧ d ≤ 3) → E (.ref Z) none H) ∧ (1 ≤ d ∧ d ≤ 3 → Q .non H)
def spChke (Z : Addr) : Sp := fun vs H Q E => ∃ (p : Addr) (ns : List Int) (d : Int), vs = [.ref p, .int d] ∧ ExpAt H p ns ∧ ((ns.length : Int) ≠ d → E (.ref Z) none H) ∧ ((ns.length : Int) = d → Q .non H)
/-- in the order's place -/
def plc (ns : List Int) : List Int := ns.sum :: ns.map (fun x => -x)
def spPlace : Sp := fun vs H Q _ => ∃ (p : Addr) (ns : List Int), vs = [.ref p] ∧ ExpAt H p ns ∧ ns.length < 100 ∧ ∀ q H', ExpAt H' q (plc ns) → Same H H' → Q (.ref q) H'
/-- two monomials of one dimension -/
def Pair (ns ms : List Int) : Prop := 1 ≤ ns.length ∧ ns.length ≤ 3 ∧ ms.length = ns.length
def spPair (Z : Addr) : Sp := fun vs H Q E => ∃ (p q : Addr) (ns ms : List Int), vs = [.ref p, .ref q] ∧ ExpAt H p ns ∧ ExpAt H q ms ∧ (¬ Pair ns ms → E (.ref Z) none H) ∧ (Pair ns ms → Q .non H)
def spBefore (Z : Addr) : Sp := fun vs H Q E => ∃ (p q : Addr) (ns ms : List Int), vs = [.ref p, .ref q] ∧ ExpAt H p ns ∧ ExpAt H q ms ∧ (¬ Pair ns ms → E (.ref Z) none H) ∧ (Pair ns ms → ∀ H', Same H H' → Q (.bl (HT.lexLt (plc ns) (plc ms))) H')
/-- each at most the other's -/
def within : List Int → List Int → Bool
  | x :: xs, y :: ys => decide (x ≤ y) && within xs ys
  | _, _ => true
def spDivides (Z : Addr) : Sp := fun vs H Q E => ∃ (p q : Addr) (ns ms : List Int), vs = [.ref p, .ref q] ∧ ExpAt H p ns ∧ ExpAt H q ms ∧ (¬ Pair ns ms → E (.ref Z) none H) ∧ (Pair ns ms → ∀ H', Same H H' → Q (.bl (within ns ms)) H')
def facs (ns : List Int) : Int := ns.foldl (fun t x => t * facI x) 1
def spMfac (Z : Addr) : Sp := fun vs H Q E => ∃ (p : Addr) (ns : List Int), vs = [.ref p] ∧ ExpAt H p ns ∧ (¬ (1 ≤ ns.length ∧ ns.length ≤ 3) → E (.ref Z) none H) ∧ (1 ≤ ns.length ∧ ns.length ≤ 3 → (∀ x ∈ ns, 0 ≤ x ∧ x ≤ 20) ∧ Q (.int (facs ns)) H)
def t_chk (K : PySem.W.Frag) (Z : Addr) (E : XK) : TS :=
    (tIfS (tOr (tTest (tOp (rI0 fun i j => .bl (decide (i < j))) (tVar 0) (tC (.int 1)))) (tTest (tOp (rI0 fun i j => .bl (decide (j < i))) (tVar 0) (tC (.int 3))))) (tRaise0 Z E) tNext)
def t_chke (K : PySem.W.Frag) (Z : Addr) (E : XK) : TS :=
    (tIfS (tTest (tOp rNe (tCB rLenA (tCons (tVar 0) tNil)) (tVar 1))) (tRaise0 Z E) tNext)
def t_place (K : PySem.W.Frag) (Z : Addr) (E : XK) : TS :=
    (tRet (tTup (tCons (tCB rSumA (tCons (tVar 0) tNil)) (tStar K (tLc (iTup K (tVar 0)) (gName 1) tYes (tUn (rU fun i => .int (-i)) (tVar 1)) [1]) tNil))))
def t_pair (K : PySem.W.Frag) (Z : Addr) (E : XK) : TS :=
    (tSeq (tDrop (tCall (spChk Z) [] E (tCons (tCB rLenA (tCons (tVar 0) tNil)) tNil)))
    (tDrop (tCall (spChke Z) [] E (tCons (tVar 1) (tCons (tCB rLenA (tCons (tVar 0) tNil)) tNil)))))
def t_before (K : PySem.W.Frag) (Z : Addr) (E : XK) : TS :=
    (tSeq (tDrop (tCall (spPair Z) [] E (tCons (tVar 0) (tCons (tVar 1) tNil))))
    (tRet (tOp rLtA (tCall spPlace [] E0 (tCons (tVar 0) tNil)) (tCall spPlace [] E0 (tCons (tVar 1) tNil)))))
def t_divides (K : PySem.W.Frag) (Z : Addr) (E : XK) : TS :=
    (tSeq (tDrop (tCall (spPair Z) [] E (tCons (tVar 0) (tCons (tVar 1) tNil))))
    (tRet (tCB rAllA (tCons (tLc (iZipA K (tCons (tVar 0) (tCons (tVar 1) tNil))) (gTup K 2 (gCons (gName 2) (gCons (gName 3) gNil))) tYes (tOp (rI0 fun i j => .bl (decide (i ≤ j))) (tVar 2) (tVar 3)) [2, 3]) tNil))))
def t_mfac (K : PySem.W.Frag) (Z : Addr) (E : XK) : TS :=
    (tSeq (tDrop (tCall (spChk Z) [] E (tCons (tCB rLenA (tCons (tVar 0) tNil)) tNil)))
    (tSeq (tAsg (tC (.int 1)) (gName 1))
    (tSeq (tFor (iTup K (tVar 0)) (gName 2) ((tAsg (tOp (rI IntMulOk fun i j => .int (i * j)) (tVar 1) (tCB rFac (tCons (tVar 2) tNil))) (gName 1))))
    (tRet (tVar 1)))))
section
variable {K : PySem.W.Frag} {Z : Addr}
theorem pure_chk (vs : List V) (H : Hp) (Q : VK) (E : XK) (h : spChk Z vs H Q E) : t_chk K Z E { nx := fun _ H' => Q .non H', rt := Q } (start ["dimension"] vs) H := by
  obtain ⟨d, rfl, ke, k⟩ := h
  show t_chk K Z E _ [some (.int d)] H
  unfold t_chk
  simp only [x_seq, x_if, x_test, x_B, x_op, x_un, x_varS, x_var0, x_c, x_I0, x_I, x_U, x_bl, x_ret, x_next, x_asg, x_name, x_set0, x_setS, x_drop, x_cb, x_cons, x_nil, x_int1, x_abs1, x_max2, x_gcd, x_gsub, x_sl, x_part, x_nopart, x_int, x_call, x_lst, x_tup, x_not, x_and, x_or, x_andV, x_orV, x_notV, x_ifE, x_eqI, x_neI, x_eqB, x_neB, x_tbm, x_never, x_isN, x_notN, decide_eq_true_eq, Bool.false_eq_true, if_false, if_true, List.append_nil, List.nil_append, List.cons_append]
  refine ite2 (fun h => ke (by omega)) fun _ => ite2 (fun h => ke (by omega)) fun _ => k (by omega)
theorem pure_chke (vs : List V) (H : Hp) (Q : VK) (E : XK) (h : spChke Z vs H Q E) : t_chke K Z E { nx := fun _ H' => Q .non H', rt := Q } (start ["entries", "dimension"] vs) H := by
  obtain ⟨p, ns, d, rfl, hp, ke, k⟩ := h
  show t_chke K Z E _ [some (.ref p), some (.int d)] H
  unfold t_chke
  simp only [x_seq, x_if, x_test, x_B, x_op, x_un, x_varS, x_var0, x_c, x_I0, x_I, x_U, x_bl, x_ret, x_next, x_asg, x_name, x_set0, x_setS, x_drop, x_cb, x_cons, x_nil, x_int1, x_abs1, x_max2, x_gcd, x_gsub, x_sl, x_part, x_nopart, x_int, x_call, x_lst, x_tup, x_not, x_and, x_or, x_andV, x_orV, x_notV, x_ifE, x_eqI, x_neI, x_eqB, x_neB, x_tbm, x_never, x_isN, x_notN, decide_eq_true_eq, Bool.false_eq_true, if_false, if_true, List.append_nil, List.nil_append, List.cons_append, x_lenT hp, List.length_map]
  refine ite2 (fun h => ke (by simpa using h)) fun h => k (by simpa using h)
theorem pure_place (vs : List V) (H : Hp) (Q : VK) (E : XK) (h : spPlace vs H Q E) : t_place K Z E { nx := fun _ H' => Q .non H', rt := Q } (start ["exponents", "exponent"] vs) H := by
  obtain ⟨p, ns, rfl, hp, hl, k⟩ := h
  show t_place K Z E _ [some (.ref p), none] H
  unfold t_place
  simp only [x_seq, x_if, x_test, x_B, x_op, x_un, x_varS, x_var0, x_c, x_I0, x_I, x_U, x_bl, x_ret, x_next, x_asg, x_name, x_set0, x_setS, x_drop, x_cb, x_cons, x_nil, x_int1, x_abs1, x_max2, x_gcd, x_gsub, x_sl, x_part, x_nopart, x_int, x_call, x_lst, x_tup, x_not, x_and, x_or, x_andV, x_orV, x_notV, x_ifE, x_eqI, x_neI, x_eqB, x_neB, x_tbm, x_never, x_isN, x_notN, decide_eq_true_eq, Bool.false_eq_true, if_false, if_true, List.append_nil, List.nil_append, List.cons_append, x_sumT hp]
  refine lc_pureT (fun j => V.int (-(ns.getD j 0))) (fun Q => by simp only [x_seq, x_if, x_test, x_B, x_op, x_un, x_varS, x_var0, x_c, x_I0, x_I, x_U, x_bl, x_ret, x_next, x_asg, x_name, x_set0, x_setS, x_drop, x_cb, x_cons, x_nil, x_int1, x_abs1, x_max2, x_gcd, x_gsub, x_sl, x_part, x_nopart, x_int, x_call, x_lst, x_tup, x_not, x_and, x_or, x_andV, x_orV, x_notV, x_ifE, x_eqI, x_neI, x_eqB, x_neB, x_tbm, x_never, x_isN, x_notN, decide_eq_true_eq, Bool.false_eq_true, if_false, if_true, List.append_nil, List.nil_append, List.cons_append]) hp (by rw [List.length_map]; omega) (fun j x H' QQ hj s kk => ?_) fun D H' s hD => ?_
  · obtain ⟨z, hz, rfl⟩ := int_at hj
    show tUn _ (tVar 1) [some (.ref p), some (.int z)] H' QQ
    simp only [x_seq, x_if, x_test, x_B, x_op, x_un, x_varS, x_var0, x_c, x_I0, x_I, x_U, x_bl, x_ret, x_next, x_asg, x_name, x_set0, x_setS, x_drop, x_cb, x_cons, x_nil, x_int1, x_abs1, x_max2, x_gcd, x_gsub, x_sl, x_part, x_nopart, x_int, x_call, x_lst, x_tup, x_not, x_and, x_or, x_andV, x_orV, x_notV, x_ifE, x_eqI, x_neI, x_eqB, x_neB, x_tbm, x_never, x_isN, x_notN, decide_eq_true_eq, Bool.false_eq_true, if_false, if_true, List.append_nil, List.nil_append, List.cons_append]
    have e : ns.getD j 0 = z := by rw [List.getD_eq_getElem?_getD, hz]; rfl
    rw [e] at kk
    exact kk
  · have e : (List.range (ns.map V.int).length).map (fun j => V.int (-(ns.getD j 0))) = (ns.map (fun x => -x)).map V.int := by
      rw [List.length_map, List.map_map]
      refine range_map fun j x hx => ?_
      rw [List.getD_eq_getElem?_getD, hx]
      rfl
    rw [e] at hD
    refine ⟨D, _, rfl, .inr (SqL.at hD), ?_, fun q hq => ?_⟩
    · show (V.int ns.sum :: ((ns.map (fun x => -x)).map V.int ++ [])).length ≤ sizeLine
      rw [List.append_nil, List.length_cons, List.length_map, List.length_map]
      exact sl5 (by omega)
    · refine k q _ ?_ (Same.new' s hq)
      rw [ExpAt, upd_same, List.append_nil]
      rfl
theorem pure_pair (vs : List V) (H : Hp) (Q : VK) (E : XK) (h : spPair Z vs H Q E) : t_pair K Z E { nx := fun _ H' => Q .non H', rt := Q } (start ["first", "second"] vs) H := by
  obtain ⟨p, q, ns, ms, rfl, hp, hq, ke, k⟩ := h
  show t_pair K Z E _ [some (.ref p), some (.ref q)] H
  unfold t_pair
  simp only [x_seq, x_if, x_test, x_B, x_op, x_un, x_varS, x_var0, x_c, x_I0, x_I, x_U, x_bl, x_ret, x_next, x_asg, x_name, x_set0, x_setS, x_drop, x_cb, x_cons, x_nil, x_int1, x_abs1, x_max2, x_gcd, x_gsub, x_sl, x_part, x_nopart, x_int, x_call, x_lst, x_tup, x_not, x_and, x_or, x_andV, x_orV, x_notV, x_ifE, x_eqI, x_neI, x_eqB, x_neB, x_tbm, x_never, x_isN, x_notN, decide_eq_true_eq, Bool.false_eq_true, if_false, if_true, List.append_nil, List.nil_append, List.cons_append, x_lenT hp, List.length_map]
  refine ⟨_, rfl, fun h => ke fun z => h (by unfold Pair at z; omega), fun h => ?_⟩
  simp only [x_seq, x_if, x_test, x_B, x_op, x_un, x_varS, x_var0, x_c, x_I0, x_I, x_U, x_bl, x_ret, x_next, x_asg, x_name, x_set0, x_setS, x_drop, x_cb, x_cons, x_nil, x_int1, x_abs1, x_max2, x_gcd, x_gsub, x_sl, x_part, x_nopart, x_int, x_call, x_lst, x_tup, x_not, x_and, x_or, x_andV, x_orV, x_notV, x_ifE, x_eqI, x_neI, x_eqB, x_neB, x_tbm, x_never, x_isN, x_notN, decide_eq_true_eq, Bool.false_eq_true, if_false, if_true, List.append_nil, List.nil_append, List.cons_append, x_lenT hp, List.length_map]
  exact ⟨q, ms, _, rfl, hq, fun z => ke fun y => z (by unfold Pair at y; omega), fun z => k (by unfold Pair; omega)⟩
theorem pure_before (vs : List V) (H : Hp) (Q : VK) (E : XK) (h : spBefore Z vs H Q E) : t_before K Z E { nx := fun _ H' => Q .non H', rt := Q } (start ["first", "second"] vs) H := by
  obtain ⟨p, q, ns, ms, rfl, hp, hq, ke, k⟩ := h
  show t_before K Z E _ [some (.ref p), some (.ref q)] H
  unfold t_before
  simp only [x_seq, x_if, x_test, x_B, x_op, x_un, x_varS, x_var0, x_c, x_I0, x_I, x_U, x_bl, x_ret, x_next, x_asg, x_name, x_set0, x_setS, x_drop, x_cb, x_cons, x_nil, x_int1, x_abs1, x_max2, x_gcd, x_gsub, x_sl, x_part, x_nopart, x_int, x_call, x_lst, x_tup, x_not, x_and, x_or, x_andV, x_orV, x_notV, x_ifE, x_eqI, x_neI, x_eqB, x_neB, x_tbm, x_never, x_isN, x_notN, decide_eq_true_eq, Bool.false_eq_true, if_false, if_true, List.append_nil, List.nil_append, List.cons_append]
  refine ⟨p, q, ns, ms, rfl, hp, hq, ke, fun ok => ?_⟩
  have ok' := ok
  unfold Pair at ok'
  refine ⟨p, ns, rfl, hp, by omega, fun a H1 ha s1 => ?_⟩
  simp only [x_seq, x_if, x_test, x_B, x_op, x_un, x_varS, x_var0, x_c, x_I0, x_I, x_U, x_bl, x_ret, x_next, x_asg, x_name, x_set0, x_setS, x_drop, x_cb, x_cons, x_nil, x_int1, x_abs1, x_max2, x_gcd, x_gsub, x_sl, x_part, x_nopart, x_int, x_call, x_lst, x_tup, x_not, x_and, x_or, x_andV, x_orV, x_notV, x_ifE, x_eqI, x_neI, x_eqB, x_neB, x_tbm, x_never, x_isN, x_notN, decide_eq_true_eq, Bool.false_eq_true, if_false, if_true, List.append_nil, List.nil_append, List.cons_append]
  refine ⟨q, ms, rfl, s1 _ _ hq, by omega, fun b H2 hb s2 => ?_⟩
  dsimp only
  rw [x_ltA (s2 _ _ ha) hb]
  exact k ok H2 (s1.trans s2)
/-- a comprehension over zip of two tuples of one length, whose element changes nothing; slots i, j -/
theorem lc_zipPure {tv tw te : TE} {σ : L2.St} {H : Hp} {Q : VK} {p q : Addr} {xs ys : List V} {i j : Nat} (f : Nat → V) (hv : ∀ (H : Hp) (Q : VK), tv σ H Q = Q (.ref p) H) (hw : ∀ (H : Hp) (Q : VK), tw σ H Q = Q (.ref q) H) (h : H p = some (.tup xs)) (h' : H q = some (.tup ys)) (hl : xs.length < 1000)
    (hlen : xs.length = ys.length) (hwi : ∀ x y, wipe (((wipe σ [i, j]).set i (some x)).set j (some y)) [i, j] = wipe σ [i, j])
    (he : ∀ n x y (H' : Hp) (QQ : VK), xs[n]? = some x → ys[n]? = some y → Same H H' → QQ (f n) H' → te (((wipe σ [i, j]).set i (some x)).set j (some y)) H' QQ)
    (k : ∀ D H', Same H H' → H' D = some (.lst ((List.range xs.length).map f)) → Q (.ref D) H') : tLc (iZipA K (tCons tv (tCons tw tNil))) (gTup K 2 (gCons (gName i) (gCons (gName j) gNil))) tYes te [i, j] σ H Q := by
  show tv σ H _
  rw [hv]
  show tw σ H _
  rw [hw]
  refine ⟨p, q, xs, ys, rfl, .inr ⟨SqT.at h, SqT.at h', fun D hD => ?_⟩⟩
  refine ⟨fun n m H' => m = xs.length - n ∧ n ≤ xs.length ∧ Same H H' ∧ H' D = some (.lst ((List.range n).map f)), ⟨xs.length, rfl, Nat.zero_le _, Same.new hD, upd_same⟩, ?_⟩
  rintro n m H' ⟨rfl, hn, s, hd⟩
  by_cases hlt : n < xs.length
  · have e1 : xs[n]? = some xs[n] := List.getElem?_eq_getElem hlt
    have e2 : ys[n]? = some (ys[n]'(by omega)) := List.getElem?_eq_getElem (by omega)
    refine .inr ⟨⟨xs, ys, _, _, SqT.at (s _ _ h), SqT.at (s _ _ h'), e1, e2⟩, fun H2 => Same H H2 ∧ H2 D = some (.lst ((List.range (n + 1)).map f)), fun H2 z => ⟨xs.length - (n + 1), by omega, rfl, hlt, z⟩, fun v H2 z => ?_⟩
    obtain ⟨T, x, y, rfl, hT, rfl, f1, f2⟩ := z
    have g1 := f1 xs (SqT.at (s _ _ h))
    have g2 := f2 ys (SqT.at (s _ _ h'))
    have nT : D ≠ T := ne_of_none hd hT
    refine ⟨T, [x, y], rfl, SqT.at upd_same, rfl, x, [y], rfl, y, [], rfl, rfl, hwi x y, ?_⟩
    unfold tYes
    dsimp only
    rw [if_pos rfl]
    refine he n x y _ _ g1 g2 (Same.new' s hT) ⟨_, by rw [upd_ne nT]; exact hd, ?_, ?_, ?_⟩
    · rw [List.length_map, List.length_range]
      exact Nat.lt_of_lt_of_le (show n < 1000 by omega) (by decide)
    · intro b o e
      rw [upd_ne (ne_of_none e hD)]
      exact Same.new' s hT b o e
    · rw [upd_same, List.range_succ, List.map_append]
      rfl
  · have e : n = xs.length := by omega
    subst e
    exact .inl ⟨⟨xs, ys, SqT.at (s _ _ h), SqT.at (s _ _ h'), .inl (Nat.le_refl _)⟩, k D H' s hd⟩
theorem within_all : ∀ (ns ms : List Int), ns.length = ms.length → ((List.range ns.length).map fun j => decide (ns.getD j 0 ≤ ms.getD j 0)).all id = within ns ms
  | [], [], _ => rfl
  | x :: xs, y :: ys, h => by
    have ih := within_all xs ys (by simpa using h)
    rw [List.length_cons, List.range_succ_eq_map, List.map_cons, List.map_map, List.all_cons]
    show (decide (x ≤ y) && _) = (decide (x ≤ y) && within xs ys)
    rw [← ih]
    rfl
theorem pure_divides (vs : List V) (H : Hp) (Q : VK) (E : XK) (h : spDivides Z vs H Q E) : t_divides K Z E { nx := fun _ H' => Q .non H', rt := Q } (start ["first", "second", "low", "high"] vs) H := by
  obtain ⟨p, q, ns, ms, rfl, hp, hq, ke, k⟩ := h
  show t_divides K Z E _ [some (.ref p), some (.ref q), none, none] H
  unfold t_divides
  simp only [x_seq, x_if, x_test, x_B, x_op, x_un, x_varS, x_var0, x_c, x_I0, x_I, x_U, x_bl, x_ret, x_next, x_asg, x_name, x_set0, x_setS, x_drop, x_cb, x_cons, x_nil, x_int1, x_abs1, x_max2, x_gcd, x_gsub, x_sl, x_part, x_nopart, x_int, x_call, x_lst, x_tup, x_not, x_and, x_or, x_andV, x_orV, x_notV, x_ifE, x_eqI, x_neI, x_eqB, x_neB, x_tbm, x_never, x_isN, x_notN, decide_eq_true_eq, Bool.false_eq_true, if_false, if_true, List.append_nil, List.nil_append, List.cons_append]
  refine ⟨p, q, ns, ms, rfl, hp, hq, ke, fun ok => ?_⟩
  have ok' := ok
  unfold Pair at ok'
  refine lc_zipPure (fun j => V.bl (decide (ns.getD j 0 ≤ ms.getD j 0))) (fun H Q => by simp only [x_seq, x_if, x_test, x_B, x_op, x_un, x_varS, x_var0, x_c, x_I0, x_I, x_U, x_bl, x_ret, x_next, x_asg, x_name, x_set0, x_setS, x_drop, x_cb, x_cons, x_nil, x_int1, x_abs1, x_max2, x_gcd, x_gsub, x_sl, x_part, x_nopart, x_int, x_call, x_lst, x_tup, x_not, x_and, x_or, x_andV, x_orV, x_notV, x_ifE, x_eqI, x_neI, x_eqB, x_neB, x_tbm, x_never, x_isN, x_notN, decide_eq_true_eq, Bool.false_eq_true, if_false, if_true, List.append_nil, List.nil_append, List.cons_append]) (fun H Q => by simp only [x_seq, x_if, x_test, x_B, x_op, x_un, x_varS, x_var0, x_c, x_I0, x_I, x_U, x_bl, x_ret, x_next, x_asg, x_name, x_set0, x_setS, x_drop, x_cb, x_cons, x_nil, x_int1, x_abs1, x_max2, x_gcd, x_gsub, x_sl, x_part, x_nopart, x_int, x_call, x_lst, x_tup, x_not, x_and, x_or, x_andV, x_orV, x_notV, x_ifE, x_eqI, x_neI, x_eqB, x_neB, x_tbm, x_never, x_isN, x_notN, decide_eq_true_eq, Bool.false_eq_true, if_false, if_true, List.append_nil, List.nil_append, List.cons_append]) hp hq (by rw [List.length_map]; omega) (by rw [List.length_map, List.length_map]; omega) (fun x y => rfl) (fun n x y H' QQ hx hy s kk => ?_) fun D H' s hD => ?_
  · obtain ⟨z, hz, rfl⟩ := int_at hx
    obtain ⟨u, hu, rfl⟩ := int_at hy
    show tOp _ (tVar 2) (tVar 3) [some (.ref p), some (.ref q), some (.int z), some (.int u)] H' QQ
    simp only [x_seq, x_if, x_test, x_B, x_op, x_un, x_varS, x_var0, x_c, x_I0, x_I, x_U, x_bl, x_ret, x_next, x_asg, x_name, x_set0, x_setS, x_drop, x_cb, x_cons, x_nil, x_int1, x_abs1, x_max2, x_gcd, x_gsub, x_sl, x_part, x_nopart, x_int, x_call, x_lst, x_tup, x_not, x_and, x_or, x_andV, x_orV, x_notV, x_ifE, x_eqI, x_neI, x_eqB, x_neB, x_tbm, x_never, x_isN, x_notN, decide_eq_true_eq, Bool.false_eq_true, if_false, if_true, List.append_nil, List.nil_append, List.cons_append]
    have e1 : ns.getD n 0 = z := by rw [List.getD_eq_getElem?_getD, hz]; rfl
    have e2 : ms.getD n 0 = u := by rw [List.getD_eq_getElem?_getD, hu]; rfl
    rw [e1, e2] at kk
    exact kk
  · have e : (List.range (ns.map V.int).length).map (fun j => V.bl (decide (ns.getD j 0 ≤ ms.getD j 0))) = ((List.range ns.length).map (fun j => decide (ns.getD j 0 ≤ ms.getD j 0))).map V.bl := by
      rw [List.length_map, List.map_map]
      rfl
    rw [e] at hD
    rw [x_allA hD, within_all ns ms (by omega)]
    exact k ok H' s
theorem fac_mul {x : Int} (h0 : 0 ≤ x) (h1 : x ≤ 20) : 0 ≤ facI x ∧ facI x < 2 ^ 64 := by
  have e : ∀ n : Nat, n ≤ 20 → Builtin.Math.factorialNat n < 2 ^ 64 := by decide +kernel
  unfold facI
  have := e x.toNat (by omega)
  omega
theorem pure_mfac (vs : List V) (H : Hp) (Q : VK) (E : XK) (h : spMfac Z vs H Q E) : t_mfac K Z E { nx := fun _ H' => Q .non H', rt := Q } (start ["exponents", "product", "exponent"] vs) H := by
  obtain ⟨p, ns, rfl, hp, ke, k⟩ := h
  show t_mfac K Z E _ [some (.ref p), none, none] H
  unfold t_mfac
  simp only [x_seq, x_if, x_test, x_B, x_op, x_un, x_varS, x_var0, x_c, x_I0, x_I, x_U, x_bl, x_ret, x_next, x_asg, x_name, x_set0, x_setS, x_drop, x_cb, x_cons, x_nil, x_int1, x_abs1, x_max2, x_gcd, x_gsub, x_sl, x_part, x_nopart, x_int, x_call, x_lst, x_tup, x_not, x_and, x_or, x_andV, x_orV, x_notV, x_ifE, x_eqI, x_neI, x_eqB, x_neB, x_tbm, x_never, x_isN, x_notN, decide_eq_true_eq, Bool.false_eq_true, if_false, if_true, List.append_nil, List.nil_append, List.cons_append, x_lenT hp, List.length_map]
  refine ⟨_, rfl, fun h => ke fun z => h (by omega), fun h => ?_⟩
  obtain ⟨small, k⟩ := k (by omega)
  refine ⟨_, rfl, p, rfl, ⟨_, SqT.at hp⟩, for_tup (K := K) (a := p) (xs := ns.map V.int) (fun i σ H' => H' = H ∧ ∃ w : Option V, σ = [some (.ref p), some (.int (facs (ns.take i))), w]) ⟨rfl, none, rfl⟩ (fun i σ H' _ z => z.1 ▸ SqT.at hp) ?_ ?_⟩
  · rintro i y σ H' hi ⟨rfl, w, rfl⟩
    obtain ⟨z, hz, rfl⟩ := int_at hi
    have mem := List.mem_of_getElem? hz
    obtain ⟨h0, h1⟩ := small z mem
    obtain ⟨f0, f1⟩ := fac_mul h0 h1
    simp only [x_seq, x_if, x_test, x_B, x_op, x_un, x_varS, x_var0, x_c, x_I0, x_I, x_U, x_bl, x_ret, x_next, x_asg, x_name, x_set0, x_setS, x_drop, x_cb, x_cons, x_nil, x_int1, x_abs1, x_max2, x_gcd, x_gsub, x_sl, x_part, x_nopart, x_int, x_call, x_lst, x_tup, x_not, x_and, x_or, x_andV, x_orV, x_notV, x_ifE, x_eqI, x_neI, x_eqB, x_neB, x_tbm, x_never, x_isN, x_notN, decide_eq_true_eq, Bool.false_eq_true, if_false, if_true, List.append_nil, List.nil_append, List.cons_append, x_fac h0 (show z ≤ 20000 by omega)]
    refine ⟨mul_lit ⟨by omega, f1⟩, trivial, some (.int z), ?_⟩
    have e : ns.take (i + 1) = ns.take i ++ [z] := by
      have hlt := (List.getElem?_eq_some_iff.mp hz).1
      rw [List.take_add_one, hz]
      rfl
    rw [e]
    unfold facs
    rw [List.foldl_append]
    rfl
  · rintro σ H' ⟨rfl, w, rfl⟩
    simp only [x_seq, x_if, x_test, x_B, x_op, x_un, x_varS, x_var0, x_c, x_I0, x_I, x_U, x_bl, x_ret, x_next, x_asg, x_name, x_set0, x_setS, x_drop, x_cb, x_cons, x_nil, x_int1, x_abs1, x_max2, x_gcd, x_gsub, x_sl, x_part, x_nopart, x_int, x_call, x_lst, x_tup, x_not, x_and, x_or, x_andV, x_orV, x_notV, x_ifE, x_eqI, x_neI, x_eqB, x_neB, x_tbm, x_never, x_isN, x_notN, decide_eq_true_eq, Bool.false_eq_true, if_false, if_true, List.append_nil, List.nil_append, List.cons_append]
    rw [List.length_map, List.take_length]
    exact k
end
end SpX

set_option Elab.async false
set_option linter.all false
set_option maxRecDepth 100000
set_option maxHeartbeats 2000000
namespace SpX
open PySem PySem.Spec L2 StX RZ
theorem for_rngE {ta : TA} {j : Int} {g : TG} {tb : TS} {D : Ends} {σ : L2.St} {H : Hp} (he : ∀ QA : List V → Hp → Prop, ta σ H QA = QA [.int j] H) (hj : -1000 ≤ j ∧ j < 1000) (Pv : Nat → L2.St → Hp → Prop) (h0 : Pv 0 σ H)
    (hs : ∀ (i : Nat) σ H, (i : Int) < j → Pv i σ H → g (.int i) σ H fun σ2 H2 => tb { D with nx := Pv (i + 1), ct := Pv (i + 1), bk := D.nx } σ2 H2) (hd : ∀ σ H, Pv j.toNat σ H → D.nx σ H) : tFor (iRng1 ta) g tb D σ H := by
  show ta σ H _
  rw [he]
  refine ⟨j, rfl, by omega, by omega, for_range (lo := 0) (n := j.toNat) Pv h0 (fun i σ H hi h => ?_) hd⟩
  have := hs i σ H (by omega) h
  rwa [Int.zero_add]
theorem for_tupE {K : PySem.W.Frag} {te : TE} {a : Addr} {xs : List V} {g : TG} {tb : TS} {D : Ends} {σ : L2.St} {H : Hp} (he : ∀ Q : VK, te σ H Q = Q (.ref a) H) (Pv : Nat → L2.St → Hp → Prop) (h0 : Pv 0 σ H) (hl : ∀ i σ H, i ≤ xs.length → Pv i σ H → H a = some (.tup xs))
    (hs : ∀ i x σ H, xs[i]? = some x → Pv i σ H → g x σ H fun σ2 H2 => tb { D with nx := Pv (i + 1), ct := Pv (i + 1), bk := D.nx } σ2 H2) (hd : ∀ σ H, Pv xs.length σ H → D.nx σ H) : tFor (iTup K te) g tb D σ H := by
  show te σ H _
  rw [he]
  exact ⟨a, rfl, ⟨xs, SqT.at (hl 0 σ H (Nat.zero_le _) h0)⟩, for_tup Pv h0 (fun i σ H h p => SqT.at (hl i σ H h p)) hs hd⟩
theorem for_lstE {K : PySem.W.Frag} {te : TE} {a : Addr} {xs : List V} {g : TG} {tb : TS} {D : Ends} {σ : L2.St} {H : Hp} (he : ∀ Q : VK, te σ H Q = Q (.ref a) H) (Pv : Nat → L2.St → Hp → Prop) (h0 : Pv 0 σ H) (hl : ∀ i σ H, i ≤ xs.length → Pv i σ H → H a = some (.lst xs))
    (hs : ∀ i x σ H, xs[i]? = some x → Pv i σ H → g x σ H fun σ2 H2 => tb { D with nx := Pv (i + 1), ct := Pv (i + 1), bk := D.nx } σ2 H2) (hd : ∀ σ H, Pv xs.length σ H → D.nx σ H) : tFor (iList K te) g tb D σ H := by
  show te σ H _
  rw [he]
  exact ⟨a, rfl, ⟨xs, SqL.at (hl 0 σ H (Nat.zero_le _) h0)⟩, for_list Pv h0 (fun i σ H h p => SqL.at (hl i σ H h p)) hs hd⟩
/-! ### the order -/
theorem lex_same : ∀ xs : List Int, HT.lexLt xs xs = false
  | [] => rfl
  | x :: xs => by rw [HT.lexLt_cons, if_pos rfl]; exact lex_same xs
theorem lex_at : ∀ (i : Nat) (xs ys : List Int) (x y : Int), xs.take i = ys.take i → xs[i]? = some x → ys[i]? = some y → x ≠ y → HT.lexLt xs ys = decide (x < y)
  | 0, a :: xs, b :: ys, x, y, _, h1, h2, hn => by
    cases h1; cases h2
    rw [HT.lexLt_cons, if_neg hn]
  | i + 1, a :: xs, b :: ys, x, y, ht, h1, h2, hn => by
    rw [List.take_succ_cons, List.take_succ_cons] at ht
    injection ht with e ht
    rw [HT.lexLt_cons, if_pos e]
    exact lex_at i xs ys x y ht h1 h2 hn
  | 0, [], _, _, _, _, h1, _, _ => by cases h1
  | 0, _ :: _, [], _, _, _, _, h2, _ => by cases h2
  | _ + 1, [], _, _, _, _, h1, _, _ => by cases h1
  | _ + 1, _ :: _, [], _, _, _, _, h2, _ => by cases h2
theorem atI_map' {ns : List Int} {i : Nat} {z : Int} (h : ns[i]? = some z) : atI (ns.map V.int) (i : Int) = some (.int z) := by
  rw [atI_nat (v := .int z) (by rw [List.getElem?_map, h]; rfl)]
theorem get_lt {ns : List Int} {i : Nat} (h : i < ns.length) : ∃ z, ns[i]? = some z := ⟨ns[i], List.getElem?_eq_getElem h⟩
theorem take_next {ns : List Int} {i : Nat} {z : Int} (h : ns[i]? = some z) : ns.take (i + 1) = ns.take i ++ [z] := by
  rw [List.take_add_one, h]
  rfl
def spLbefore : Sp := fun vs H Q _ => ∃ (p q : Addr) (ns ms : List Int), vs = [.ref p, .ref q] ∧ ExpAt H p ns ∧ ExpAt H q ms ∧ ms.length = ns.length ∧ ns.length < 100 ∧ Q (.bl (HT.lexLt (plc ns) (plc ms))) H
def spLwithin : Sp := fun vs H Q _ => ∃ (p q : Addr) (ns ms : List Int), vs = [.ref p, .ref q] ∧ ExpAt H p ns ∧ ExpAt H q ms ∧ ms.length = ns.length ∧ ns.length < 100 ∧ Q (.bl (within ns ms)) H
def spLfac : Sp := fun vs H Q _ => ∃ (p : Addr) (ns : List Int), vs = [.ref p] ∧ ExpAt H p ns ∧ ns.length ≤ 3 ∧ (∀ x ∈ ns, 0 ≤ x ∧ x ≤ 20) ∧ Q (.int (facs ns)) H
/-- how many monomials up to a degree -/
def many (d k : Int) : Int := if d = 1 then k + 1 else if d = 2 then ((k + 1) * (k + 2)).fdiv 2 else ((k + 1) * (k + 2) * (k + 3)).fdiv 6
def spLmany : Sp := fun vs H Q _ => ∃ d k : Int, vs = [.int d, .int k] ∧ -10 ≤ k ∧ k ≤ 100 ∧ Q (.int (many d k)) H
def spSays : Sp := fun vs H Q _ => ∃ a b : Bool, vs = [.bl a, .bl b] ∧ Q (.bl (decide (a = b))) H
def t_lbefore (K : PySem.W.Frag) (Z : Addr) (E : XK) : TS :=
    (tSeq (tIfS (tTest (tOp rNe (tCB rSumA (tCons (tVar 0) tNil)) (tCB rSumA (tCons (tVar 1) tNil)))) (tRet (tOp (rI0 fun i j => .bl (decide (i < j))) (tCB rSumA (tCons (tVar 0) tNil)) (tCB rSumA (tCons (tVar 1) tNil)))) tNext)
    (tSeq (tFor (iRng1 (tCons (tCB rLenA (tCons (tVar 0) tNil)) tNil)) (gName 2) ((tIfS (tTest (tOp rNe (tOp rIx1 (tVar 0) (tVar 2)) (tOp rIx1 (tVar 1) (tVar 2)))) (tRet (tOp (rI0 fun i j => .bl (decide (j < i))) (tOp rIx1 (tVar 0) (tVar 2)) (tOp rIx1 (tVar 1) (tVar 2)))) tNext)))
    (tRet (tC (.bl false)))))
def t_lwithin (K : PySem.W.Frag) (Z : Addr) (E : XK) : TS :=
    (tSeq (tFor (iRng1 (tCons (tCB rLenA (tCons (tVar 0) tNil)) tNil)) (gName 2) ((tIfS (tTest (tOp (rI0 fun i j => .bl (decide (j < i))) (tOp rIx1 (tVar 0) (tVar 2)) (tOp rIx1 (tVar 1) (tVar 2)))) (tRet (tC (.bl false))) tNext)))
    (tRet (tC (.bl true))))
def t_lfac (K : PySem.W.Frag) (Z : Addr) (E : XK) : TS :=
    (tSeq (tAsg (tC (.int 1)) (gName 1))
    (tSeq (tFor (iTup K (tVar 0)) (gName 2) ((tFor (iRng1 (tCons (tVar 2) tNil)) (gName 3) ((tAsg (tOp (rI IntMulOk fun i j => .int (i * j)) (tVar 1) (tOp (rI0 fun i j => .int (i + j)) (tVar 3) (tC (.int 1)))) (gName 1))))))
    (tRet (tVar 1))))
def t_lmany (K : PySem.W.Frag) (Z : Addr) (E : XK) : TS :=
    (tSeq (tIfS (tTest (tOp rEq (tVar 0) (tC (.int 1)))) (tRet (tOp (rI0 fun i j => .int (i + j)) (tVar 1) (tC (.int 1)))) tNext)
    (tSeq (tIfS (tTest (tOp rEq (tVar 0) (tC (.int 2)))) (tRet (tOp (rI CDivF fun i j => .int (i.fdiv j)) (tOp (rI IntMulOk fun i j => .int (i * j)) (tOp (rI0 fun i j => .int (i + j)) (tVar 1) (tC (.int 1))) (tOp (rI0 fun i j => .int (i + j)) (tVar 1) (tC (.int 2)))) (tC (.int 2)))) tNext)
    (tRet (tOp (rI CDivF fun i j => .int (i.fdiv j)) (tOp (rI IntMulOk fun i j => .int (i * j)) (tOp (rI IntMulOk fun i j => .int (i * j)) (tOp (rI0 fun i j => .int (i + j)) (tVar 1) (tC (.int 1))) (tOp (rI0 fun i j => .int (i + j)) (tVar 1) (tC (.int 2)))) (tOp (rI0 fun i j => .int (i + j)) (tVar 1) (tC (.int 3)))) (tC (.int 6))))))
def t_says (K : PySem.W.Frag) (Z : Addr) (E : XK) : TS :=
    (tRet (tAndV (tCB rIsB (tCons (tVar 0) (tCons (tC (.ty "bool")) tNil))) (tOp rEq (tVar 0) (tVar 1))))
section
variable {K : PySem.W.Frag} {Z : Addr}
theorem pure_lbefore (vs : List V) (H : Hp) (Q : VK) (E : XK) (h : spLbefore vs H Q E) : t_lbefore K Z E { nx := fun _ H' => Q .non H', rt := Q } (start ["first", "second", "k"] vs) H := by
  obtain ⟨p, q, ns, ms, rfl, hp, hq, hl, h100, k⟩ := h
  show t_lbefore K Z E _ [some (.ref p), some (.ref q), none] H
  unfold t_lbefore
  rw [x_seq]
  simp only [x_if, x_test, x_B, x_op, x_un, x_varS, x_var0, x_c, x_I0, x_I, x_U, x_bl, x_ret, x_next, x_asg, x_name, x_set0, x_setS, x_drop, x_cb, x_cons, x_nil, x_int1, x_abs1, x_max2, x_gcd, x_gsub, x_sl, x_part, x_nopart, x_int, x_call, x_lst, x_tup, x_not, x_and, x_or, x_andV, x_orV, x_notV, x_ifE, x_eqI, x_neI, x_eqB, x_neB, x_tbm, x_never, x_isN, x_notN, decide_eq_true_eq, Bool.false_eq_true, if_false, if_true, List.append_nil, List.nil_append, List.cons_append, x_sumT hp, x_sumT hq]
  unfold plc at k
  rw [HT.lexLt_cons] at k
  refine ite2 (fun h => ?_) fun h => ?_
  · have h' : ¬ ns.sum = ms.sum := by simpa using h
    rw [if_neg h'] at k
    exact k
  have h' : ns.sum = ms.sum := by simpa using h
  rw [if_pos h'] at k
  rw [x_seq]
  refine for_rngE (j := (ns.length : Int)) (fun QA => by simp only [x_if, x_test, x_B, x_op, x_un, x_varS, x_var0, x_c, x_I0, x_I, x_U, x_bl, x_ret, x_next, x_asg, x_name, x_set0, x_setS, x_drop, x_cb, x_cons, x_nil, x_int1, x_abs1, x_max2, x_gcd, x_gsub, x_sl, x_part, x_nopart, x_int, x_call, x_lst, x_tup, x_not, x_and, x_or, x_andV, x_orV, x_notV, x_ifE, x_eqI, x_neI, x_eqB, x_neB, x_tbm, x_never, x_isN, x_notN, decide_eq_true_eq, Bool.false_eq_true, if_false, if_true, List.append_nil, List.nil_append, List.cons_append, x_lenT hp, List.length_map]) (by omega) (fun i σ H' => H' = H ∧ (∃ w : Option V, σ = [some (.ref p), some (.ref q), w]) ∧ (ns.map fun x => -x).take i = (ms.map fun x => -x).take i) ⟨rfl, ⟨_, rfl⟩, rfl⟩ ?_ ?_
  · rintro i σ H' hi ⟨rfl, ⟨w, rfl⟩, ht⟩
    obtain ⟨z, hz⟩ := get_lt (ns := ns) (i := i) (by omega)
    obtain ⟨u, hu⟩ := get_lt (ns := ms) (i := i) (by omega)
    have e1 : (ns.map fun x => -x)[i]? = some (-z) := by rw [List.getElem?_map, hz]; rfl
    have e2 : (ms.map fun x => -x)[i]? = some (-u) := by rw [List.getElem?_map, hu]; rfl
    simp only [x_if, x_test, x_B, x_op, x_un, x_varS, x_var0, x_c, x_I0, x_I, x_U, x_bl, x_ret, x_next, x_asg, x_name, x_set0, x_setS, x_drop, x_cb, x_cons, x_nil, x_int1, x_abs1, x_max2, x_gcd, x_gsub, x_sl, x_part, x_nopart, x_int, x_call, x_lst, x_tup, x_not, x_and, x_or, x_andV, x_orV, x_notV, x_ifE, x_eqI, x_neI, x_eqB, x_neB, x_tbm, x_never, x_isN, x_notN, decide_eq_true_eq, Bool.false_eq_true, if_false, if_true, List.append_nil, List.nil_append, List.cons_append, x_ixT hp (atI_map' hz), x_ixT hq (atI_map' hu)]
    refine ite2 (fun h => ?_) fun h => ?_
    · have hn : z ≠ u := by simpa using h
      rw [lex_at i _ _ _ _ ht e1 e2 (by omega)] at k
      have e : decide (-z < -u) = decide (u < z) := decide_eq_decide.mpr (by omega)
      rw [e] at k
      exact k
    · have he : z = u := by simpa using h
      refine ⟨trivial, ⟨_, rfl⟩, ?_⟩
      rw [take_next e1, take_next e2, ht, he]
  · rintro σ H' ⟨rfl, ⟨w, rfl⟩, ht⟩
    simp only [x_if, x_test, x_B, x_op, x_un, x_varS, x_var0, x_c, x_I0, x_I, x_U, x_bl, x_ret, x_next, x_asg, x_name, x_set0, x_setS, x_drop, x_cb, x_cons, x_nil, x_int1, x_abs1, x_max2, x_gcd, x_gsub, x_sl, x_part, x_nopart, x_int, x_call, x_lst, x_tup, x_not, x_and, x_or, x_andV, x_orV, x_notV, x_ifE, x_eqI, x_neI, x_eqB, x_neB, x_tbm, x_never, x_isN, x_notN, decide_eq_true_eq, Bool.false_eq_true, if_false, if_true, List.append_nil, List.nil_append, List.cons_append]
    have e : (ns.map fun x => -x) = (ms.map fun x => -x) := by
      rw [List.take_of_length_le (by rw [List.length_map]; omega), List.take_of_length_le (by rw [List.length_map]; omega)] at ht
      exact ht
    rw [e, lex_same] at k
    exact k
theorem within_take : ∀ (ns ms : List Int), ns.length = ms.length → (∀ (i : Nat) (x y : Int), ns[i]? = some x → ms[i]? = some y → x ≤ y) → within ns ms = true
  | [], _, _, _ => by simp [within]
  | _ :: _, [], h, _ => by simp at h
  | x :: xs, y :: ys, h, k => by
    have h0 := k 0 x y rfl rfl
    have ih := within_take xs ys (by simpa using h) fun i a b ha hb => k (i + 1) a b ha hb
    simp [within, h0, ih]
theorem within_not : ∀ (i : Nat) (ns ms : List Int) (x y : Int), ns[i]? = some x → ms[i]? = some y → y < x → within ns ms = false
  | 0, a :: xs, b :: ys, x, y, h1, h2, hn => by
    cases h1; cases h2
    simp [within, show ¬ (a ≤ b) by omega]
  | i + 1, a :: xs, b :: ys, x, y, h1, h2, hn => by
    have ih := within_not i xs ys x y h1 h2 hn
    simp [within, ih]
  | 0, [], _, _, _, h1, _, _ => by cases h1
  | 0, _ :: _, [], _, _, _, h2, _ => by cases h2
  | _ + 1, [], _, _, _, h1, _, _ => by cases h1
  | _ + 1, _ :: _, [], _, _, _, h2, _ => by cases h2
theorem pure_lwithin (vs : List V) (H : Hp) (Q : VK) (E : XK) (h : spLwithin vs H Q E) : t_lwithin K Z E { nx := fun _ H' => Q .non H', rt := Q } (start ["first", "second", "k"] vs) H := by
  obtain ⟨p, q, ns, ms, rfl, hp, hq, hl, h100, k⟩ := h
  show t_lwithin K Z E _ [some (.ref p), some (.ref q), none] H
  unfold t_lwithin
  rw [x_seq]
  refine for_rngE (j := (ns.length : Int)) (fun QA => by simp only [x_if, x_test, x_B, x_op, x_un, x_varS, x_var0, x_c, x_I0, x_I, x_U, x_bl, x_ret, x_next, x_asg, x_name, x_set0, x_setS, x_drop, x_cb, x_cons, x_nil, x_int1, x_abs1, x_max2, x_gcd, x_gsub, x_sl, x_part, x_nopart, x_int, x_call, x_lst, x_tup, x_not, x_and, x_or, x_andV, x_orV, x_notV, x_ifE, x_eqI, x_neI, x_eqB, x_neB, x_tbm, x_never, x_isN, x_notN, decide_eq_true_eq, Bool.false_eq_true, if_false, if_true, List.append_nil, List.nil_append, List.cons_append, x_lenT hp, List.length_map]) (by omega) (fun i σ H' => H' = H ∧ (∃ w : Option V, σ = [some (.ref p), some (.ref q), w]) ∧ ∀ (j : Nat) (x y : Int), j < i → ns[j]? = some x → ms[j]? = some y → x ≤ y) ⟨rfl, ⟨_, rfl⟩, fun j x y h => absurd h (by omega)⟩ ?_ ?_
  · rintro i σ H' hi ⟨rfl, ⟨w, rfl⟩, ht⟩
    obtain ⟨z, hz⟩ := get_lt (ns := ns) (i := i) (by omega)
    obtain ⟨u, hu⟩ := get_lt (ns := ms) (i := i) (by omega)
    simp only [x_if, x_test, x_B, x_op, x_un, x_varS, x_var0, x_c, x_I0, x_I, x_U, x_bl, x_ret, x_next, x_asg, x_name, x_set0, x_setS, x_drop, x_cb, x_cons, x_nil, x_int1, x_abs1, x_max2, x_gcd, x_gsub, x_sl, x_part, x_nopart, x_int, x_call, x_lst, x_tup, x_not, x_and, x_or, x_andV, x_orV, x_notV, x_ifE, x_eqI, x_neI, x_eqB, x_neB, x_tbm, x_never, x_isN, x_notN, decide_eq_true_eq, Bool.false_eq_true, if_false, if_true, List.append_nil, List.nil_append, List.cons_append, x_ixT hp (atI_map' hz), x_ixT hq (atI_map' hu)]
    refine ite2 (fun h => ?_) fun h => ?_
    · rw [within_not i ns ms z u hz hu h] at k
      exact k
    · refine ⟨trivial, ⟨_, rfl⟩, fun j x y hj hx hy => ?_⟩
      by_cases e : j = i
      · subst e
        rw [hz] at hx
        rw [hu] at hy
        cases hx; cases hy
        omega
      · exact ht j x y (by omega) hx hy
  · rintro σ H' ⟨rfl, ⟨w, rfl⟩, ht⟩
    simp only [x_if, x_test, x_B, x_op, x_un, x_varS, x_var0, x_c, x_I0, x_I, x_U, x_bl, x_ret, x_next, x_asg, x_name, x_set0, x_setS, x_drop, x_cb, x_cons, x_nil, x_int1, x_abs1, x_max2, x_gcd, x_gsub, x_sl, x_part, x_nopart, x_int, x_call, x_lst, x_tup, x_not, x_and, x_or, x_andV, x_orV, x_notV, x_ifE, x_eqI, x_neI, x_eqB, x_neB, x_tbm, x_never, x_isN, x_notN, decide_eq_true_eq, Bool.false_eq_true, if_false, if_true, List.append_nil, List.nil_append, List.cons_append]
    rw [within_take ns ms (by omega) fun i x y hx hy => ht i x y (by have := (List.getElem?_eq_some_iff.mp hx).1; omega) hx hy] at k
    exact k
theorem pure_lmany (vs : List V) (H : Hp) (Q : VK) (E : XK) (h : spLmany vs H Q E) : t_lmany K Z E { nx := fun _ H' => Q .non H', rt := Q } (start ["dimension", "high"] vs) H := by
  obtain ⟨d, j, rfl, h0, h1, k⟩ := h
  show t_lmany K Z E _ [some (.int d), some (.int j)] H
  unfold t_lmany
  simp only [x_seq, x_if, x_test, x_B, x_op, x_un, x_varS, x_var0, x_c, x_I0, x_I, x_U, x_bl, x_ret, x_next, x_asg, x_name, x_set0, x_setS, x_drop, x_cb, x_cons, x_nil, x_int1, x_abs1, x_max2, x_gcd, x_gsub, x_sl, x_part, x_nopart, x_int, x_call, x_lst, x_tup, x_not, x_and, x_or, x_andV, x_orV, x_notV, x_ifE, x_eqI, x_neI, x_eqB, x_neB, x_tbm, x_never, x_isN, x_notN, decide_eq_true_eq, Bool.false_eq_true, if_false, if_true, List.append_nil, List.nil_append, List.cons_append]
  unfold many at k
  refine ite2 (fun h => ?_) fun h => ite2 (fun h2 => ⟨mul_lit (by omega), small_div (by decide), ?_⟩) fun h2 => ⟨mul_lit (by omega), mul_lit (by omega), small_div (by decide), ?_⟩
  · rwa [if_pos h] at k
  · rwa [if_neg h, if_pos h2] at k
  · rwa [if_neg h, if_neg h2] at k
theorem pure_says (vs : List V) (H : Hp) (Q : VK) (E : XK) (h : spSays vs H Q E) : t_says K Z E { nx := fun _ H' => Q .non H', rt := Q } (start ["told", "due"] vs) H := by
  obtain ⟨a, b, rfl, k⟩ := h
  show t_says K Z E _ [some (.bl a), some (.bl b)] H
  unfold t_says
  simp only [x_seq, x_if, x_test, x_B, x_op, x_un, x_varS, x_var0, x_c, x_I0, x_I, x_U, x_bl, x_ret, x_next, x_asg, x_name, x_set0, x_setS, x_drop, x_cb, x_cons, x_nil, x_int1, x_abs1, x_max2, x_gcd, x_gsub, x_sl, x_part, x_nopart, x_int, x_call, x_lst, x_tup, x_not, x_and, x_or, x_andV, x_orV, x_notV, x_ifE, x_eqI, x_neI, x_eqB, x_neB, x_tbm, x_never, x_isN, x_notN, decide_eq_true_eq, Bool.false_eq_true, if_false, if_true, List.append_nil, List.nil_append, List.cons_append, x_isBB]
  exact k
theorem fac_next (n : Nat) : Builtin.Math.factorialNat (n + 1) = Builtin.Math.factorialNat n * (n + 1) := PySem.W.mc_fac_succ n
theorem pure_lfac (vs : List V) (H : Hp) (Q : VK) (E : XK) (h : spLfac vs H Q E) : t_lfac K Z E { nx := fun _ H' => Q .non H', rt := Q } (start ["exponents", "found", "exponent", "k"] vs) H := by
  obtain ⟨p, ns, rfl, hp, hl, small, k⟩ := h
  show t_lfac K Z E _ [some (.ref p), none, none, none] H
  unfold t_lfac
  rw [x_seq]
  simp only [x_if, x_test, x_B, x_op, x_un, x_varS, x_var0, x_c, x_I0, x_I, x_U, x_bl, x_ret, x_next, x_asg, x_name, x_set0, x_setS, x_drop, x_cb, x_cons, x_nil, x_int1, x_abs1, x_max2, x_gcd, x_gsub, x_sl, x_part, x_nopart, x_int, x_call, x_lst, x_tup, x_not, x_and, x_or, x_andV, x_orV, x_notV, x_ifE, x_eqI, x_neI, x_eqB, x_neB, x_tbm, x_never, x_isN, x_notN, decide_eq_true_eq, Bool.false_eq_true, if_false, if_true, List.append_nil, List.nil_append, List.cons_append]
  rw [x_seq]
  refine for_tupE (xs := ns.map V.int) (fun Q => by simp only [x_if, x_test, x_B, x_op, x_un, x_varS, x_var0, x_c, x_I0, x_I, x_U, x_bl, x_ret, x_next, x_asg, x_name, x_set0, x_setS, x_drop, x_cb, x_cons, x_nil, x_int1, x_abs1, x_max2, x_gcd, x_gsub, x_sl, x_part, x_nopart, x_int, x_call, x_lst, x_tup, x_not, x_and, x_or, x_andV, x_orV, x_notV, x_ifE, x_eqI, x_neI, x_eqB, x_neB, x_tbm, x_never, x_isN, x_notN, decide_eq_true_eq, Bool.false_eq_true, if_false, if_true, List.append_nil, List.nil_append, List.cons_append]) (fun i σ H' => H' = H ∧ ∃ w v : Option V, σ = [some (.ref p), some (.int (facs (ns.take i))), w, v]) ⟨rfl, _, _, rfl⟩ (fun i σ H' _ z => z.1 ▸ hp) ?_ ?_
  · rintro i y σ H' hi ⟨rfl, w, v, rfl⟩
    obtain ⟨z, hz, rfl⟩ := int_at hi
    obtain ⟨h0, h1⟩ := small z (List.mem_of_getElem? hz)
    simp only [x_name, x_setS, x_set0]
    refine for_rngE (j := z) (fun QA => by simp only [x_if, x_test, x_B, x_op, x_un, x_varS, x_var0, x_c, x_I0, x_I, x_U, x_bl, x_ret, x_next, x_asg, x_name, x_set0, x_setS, x_drop, x_cb, x_cons, x_nil, x_int1, x_abs1, x_max2, x_gcd, x_gsub, x_sl, x_part, x_nopart, x_int, x_call, x_lst, x_tup, x_not, x_and, x_or, x_andV, x_orV, x_notV, x_ifE, x_eqI, x_neI, x_eqB, x_neB, x_tbm, x_never, x_isN, x_notN, decide_eq_true_eq, Bool.false_eq_true, if_false, if_true, List.append_nil, List.nil_append, List.cons_append]) (by omega) (fun n σ H2 => H2 = H' ∧ ∃ v : Option V, σ = [some (.ref p), some (.int (facs (ns.take i) * ((Builtin.Math.factorialNat n : Nat) : Int))), some (.int z), v]) ⟨rfl, v, by rw [show Builtin.Math.factorialNat 0 = 1 from rfl]; simp⟩ ?_ ?_
    · rintro n σ H2 hn ⟨rfl, v, rfl⟩
      simp only [x_if, x_test, x_B, x_op, x_un, x_varS, x_var0, x_c, x_I0, x_I, x_U, x_bl, x_ret, x_next, x_asg, x_name, x_set0, x_setS, x_drop, x_cb, x_cons, x_nil, x_int1, x_abs1, x_max2, x_gcd, x_gsub, x_sl, x_part, x_nopart, x_int, x_call, x_lst, x_tup, x_not, x_and, x_or, x_andV, x_orV, x_notV, x_ifE, x_eqI, x_neI, x_eqB, x_neB, x_tbm, x_never, x_isN, x_notN, decide_eq_true_eq, Bool.false_eq_true, if_false, if_true, List.append_nil, List.nil_append, List.cons_append]
      refine ⟨mul_lit (by omega), trivial, some (.int n), ?_⟩
      rw [fac_next, Int.mul_assoc]
      congr 4
    · rintro σ H2 ⟨rfl, v, rfl⟩
      refine ⟨rfl, some (.int z), v, ?_⟩
      rw [take_next hz]
      unfold facs
      rw [List.foldl_append]
      rfl
  · rintro σ H' ⟨rfl, w, v, rfl⟩
    simp only [x_if, x_test, x_B, x_op, x_un, x_varS, x_var0, x_c, x_I0, x_I, x_U, x_bl, x_ret, x_next, x_asg, x_name, x_set0, x_setS, x_drop, x_cb, x_cons, x_nil, x_int1, x_abs1, x_max2, x_gcd, x_gsub, x_sl, x_part, x_nopart, x_int, x_call, x_lst, x_tup, x_not, x_and, x_or, x_andV, x_orV, x_notV, x_ifE, x_eqI, x_neI, x_eqB, x_neB, x_tbm, x_never, x_isN, x_notN, decide_eq_true_eq, Bool.false_eq_true, if_false, if_true, List.append_nil, List.nil_append, List.cons_append]
    rw [List.length_map, List.take_length]
    exact k
end
end SpX

set_option Elab.async false
set_option linter.all false
set_option maxRecDepth 100000
set_option maxHeartbeats 2000000
namespace SpX
open PySem PySem.Spec L2 StX RZ
theorem cut_drop {xs : List V} {c : Nat} (h : c ≤ xs.length) : cutV xs (some (c : Int)) none = xs.drop c := by
  unfold cutV
  rw [HT.sIx_nat, HT.sIx_none, Nat.min_eq_left h]
  exact List.take_of_length_le (by rw [List.length_drop]; omega)
theorem cut_take {xs : List V} {c : Nat} (h : c ≤ xs.length) : cutV xs none (some (c : Int)) = xs.take c := by
  unfold cutV
  rw [HT.sIx_nat, HT.sIx_none, Nat.min_eq_left h]
  simp
/-- what B names is there -/
def There (B : Addr → Prop) (H : Hp) : Prop := ∀ b, B b → ∃ o, H b = some o
theorem There.same {B : Addr → Prop} {H H' : Hp} (h : There B H) (k : Same H H') : There B H' := fun b z => by
  obtain ⟨o, e⟩ := h b z
  exact ⟨o, k _ _ e⟩
theorem There.keep {B : Addr → Prop} {H H' : Hp} {P : Addr} (h : There B H) (k : Keep P H H') (hp : ∃ o, H' P = some o) : There B H' := fun b z => by
  obtain ⟨o, e⟩ := h b z
  by_cases q : b = P
  · rw [q]
    exact hp
  · exact ⟨o, k _ _ q e⟩
theorem There.more {B : Addr → Prop} {H : Hp} {F : Addr} {o : HO} (h : There B H) (n : H F = none) : There (fun b => B b ∨ b = F) (upd H F o) := by
  rintro b (z | rfl)
  · exact h.same (Same.new n) b z
  · exact ⟨o, upd_same⟩
theorem ExpAt.keep {B : Addr → Prop} {H H' : Hp} {P o : Addr} {ns : List Int} (h : ExpAt H o ns) (hp : PoolB B H P) (k : Keep P H H') : ExpAt H' o ns := k _ _ (tup_off hp h) h
theorem pool_some {B : Addr → Prop} {H : Hp} {P : Addr} (h : PoolB B H P) : ∃ o, H P = some o := by
  obtain ⟨xs, e⟩ := h.there
  exact ⟨_, e⟩
/-- a draw below a bound (0 where the bound is at most 1) -/
theorem take_to {P : Addr} {most : Int} {H : Hp} {Q : VK} {E : XK} {B : Addr → Prop} (hp : PoolB B H P) (th : There B H) (h0 : -1000 ≤ most) (h1 : most < 1000) (k : ∀ (r : Int) (H' : Hp), PoolB B H' P → Keep P H H' → 0 ≤ r → (1 ≤ most → r < most) → Q (.int r) H') : spTakeB [.ref P, .int most] H Q E := by
  refine ⟨P, most, B, rfl, hp, th, Nat.lt_of_lt_of_le (show most.natAbs < 2 ^ 10 by omega) (Nat.pow_le_pow_right (by decide) (by decide)), fun r H' a b c d e => k r H' a b c fun h => ?_⟩
  by_cases h2 : 2 ≤ most
  · exact d h2
  · have := e (by omega)
    omega
/-- exponents of a degree at most high -/
structure Exps (ns : List Int) (d : Int) (high : Int) : Prop where
  len : (ns.length : Int) = d
  pos : ∀ x ∈ ns, 0 ≤ x
  sum : ns.sum ≤ high
def GivesE (P : Addr) (B : Addr → Prop) (H : Hp) (d high : Int) (Q : VK) : Prop := ∀ (q : Addr) (ns : List Int) (H' : Hp), ExpAt H' q ns → PoolB B H' P → Keep P H H' → Exps ns d high → Q (.ref q) H'
def spLexp : Sp := fun vs H Q _ => ∃ (P : Addr) (d high : Int) (B : Addr → Prop), vs = [.ref P, .int d, .int high] ∧ PoolB B H P ∧ There B H ∧ 1 ≤ d ∧ d ≤ 3 ∧ 0 ≤ high ∧ high ≤ 16 ∧ GivesE P B H d high Q
theorem sum_nonneg : ∀ l : List Int, (∀ x ∈ l, 0 ≤ x) → 0 ≤ l.sum
  | [], _ => by simp
  | a :: r, h => by
    rw [List.sum_cons]
    have := h a (List.mem_cons_self)
    have := sum_nonneg r fun x hx => h x (List.mem_cons_of_mem _ hx)
    omega
theorem drop_take_sum (l : List Int) (c : Nat) : (l.drop c ++ l.take c).sum = l.sum := by
  have e : l.sum = (l.take c ++ l.drop c).sum := by rw [List.take_append_drop]
  rw [e, List.sum_append, List.sum_append, Int.add_comm]
theorem drop_take_mem {l : List Int} {c : Nat} {x : Int} (h : x ∈ l.drop c ++ l.take c) : x ∈ l := by
  rcases List.mem_append.mp h with h | h
  · exact List.mem_of_mem_drop h
  · exact List.mem_of_mem_take h
def spLodeg : Sp := fun vs H Q _ => ∃ (P : Addr) (d total : Int) (B : Addr → Prop), vs = [.ref P, .int d, .int total] ∧ PoolB B H P ∧ There B H ∧ 1 ≤ d ∧ d ≤ 3 ∧ 0 ≤ total ∧ total ≤ 16 ∧ GivesE P B H d total Q
def spLsecond : Sp := fun vs H Q _ => ∃ (P p : Addr) (ns : List Int) (d : Int) (B : Addr → Prop), vs = [.ref P, .ref p] ∧ PoolB B H P ∧ There B H ∧ ExpAt H p ns ∧ Exps ns d 16 ∧ 1 ≤ d ∧ d ≤ 3 ∧ GivesE P B H d 16 Q
def t_lexp (K : PySem.W.Frag) (Z : Addr) (E : XK) : TS :=
    (tSeq (tAsg (tVar 2) (gName 3))
    (tSeq (tAsg (tLst tNil) (gName 4))
    (tSeq (tFor (iRng1 (tCons (tVar 1) tNil)) (gName 5) ((tSeq (tAsg (tCall spTakeB [] E0 (tCons (tVar 0) (tCons (tOp (rI0 fun i j => .int (i + j)) (tVar 3) (tC (.int 1))) tNil))) (gName 7))
    (tSeq (tAsg (tOp (rI0 fun i j => .int (i - j)) (tVar 3) (tVar 7)) (gName 3))
    (tDrop (tBM K "list" rAppend (tVar 4) (tCons (tVar 7) tNil)))))))
    (tSeq (tAsg (tCall spTakeB [] E0 (tCons (tVar 0) (tCons (tVar 1) tNil))) (gName 6))
    (tRet (tCB rTupA (tCons (tOp rCat (tSl rSlA (tVar 4) (tPart (tVar 6)) tNoPart) (tSl rSlA (tVar 4) tNoPart (tPart (tVar 6)))) tNil)))))))
def t_lodeg (K : PySem.W.Frag) (Z : Addr) (E : XK) : TS :=
    (tSeq (tAsg (tCB rListA (tCons (tCall spLexp [] E0 (tCons (tVar 0) (tCons (tVar 1) (tCons (tVar 2) tNil)))) tNil)) (gName 3))
    (tSeq (tAsg (tCall spTakeB [] E0 (tCons (tVar 0) (tCons (tVar 1) tNil))) (gName 4))
    (tSeq (tAsg (tOp (rI0 fun i j => .int (i - j)) (tOp (rI0 fun i j => .int (i + j)) (tOp rIx1 (tVar 3) (tVar 4)) (tVar 2)) (tCB rSumA (tCons (tVar 3) tNil))) (gSub (tVar 3) (tVar 4) rSetL))
    (tRet (tCB rTupA (tCons (tVar 3) tNil))))))
def t_lsecond (K : PySem.W.Frag) (Z : Addr) (E : XK) : TS :=
    (tSeq (tAsg (tCall spTakeB [] E0 (tCons (tVar 0) (tCons (tC (.int 12)) tNil))) (gName 2))
    (tSeq (tIfS (tTest (tOp (rI0 fun i j => .bl (decide (i < j))) (tVar 2) (tC (.int 4)))) (tRet (tCall spLodeg [] E0 (tCons (tVar 0) (tCons (tCB rLenA (tCons (tVar 1) tNil)) (tCons (tCB rSumA (tCons (tVar 1) tNil)) tNil))))) tNext)
    (tSeq (tIfS (tTest (tOp (rI0 fun i j => .bl (decide (i < j))) (tVar 2) (tC (.int 6)))) (tSeq (tAsg (tCall spLexp [] E0 (tCons (tVar 0) (tCons (tCB rLenA (tCons (tVar 1) tNil)) (tCons (tOp (rI0 fun i j => .int (i - j)) (tC (.int 16)) (tCB rSumA (tCons (tVar 1) tNil))) tNil)))) (gName 3))
    (tRet (tCB rTupA (tCons (tLc (iRng1 (tCons (tCB rLenA (tCons (tVar 1) tNil)) tNil)) (gName 4) tYes (tOp (rI0 fun i j => .int (i + j)) (tOp rIx1 (tVar 1) (tVar 4)) (tOp rIx1 (tVar 3) (tVar 4))) [4]) tNil)))) tNext)
    (tSeq (tIfS (tTest (tOp rEq (tVar 2) (tC (.int 6)))) (tRet (tCB rTupA (tCons (tCB rListA (tCons (tVar 1) tNil)) tNil))) tNext)
    (tSeq (tIfS (tTest (tOp rEq (tVar 2) (tC (.int 7)))) (tRet (tCB rTupA (tCons (tLc (iTup K (tVar 1)) (gName 5) tYes (tCall spTakeB [] E0 (tCons (tVar 0) (tCons (tOp (rI0 fun i j => .int (i + j)) (tVar 5) (tC (.int 1))) tNil))) [5]) tNil))) tNext)
    (tRet (tCall spLexp [] E0 (tCons (tVar 0) (tCons (tCB rLenA (tCons (tVar 1) tNil)) (tCons (tC (.int 16)) tNil))))))))))
section
variable {K : PySem.W.Frag} {Z : Addr}
theorem pure_lexp (vs : List V) (H : Hp) (Q : VK) (E : XK) (h : spLexp vs H Q E) : t_lexp K Z E { nx := fun _ H' => Q .non H', rt := Q } (start ["pool", "dimension", "high", "left", "found", "k", "cut", "exponent"] vs) H := by
  obtain ⟨P, d, high, B, rfl, hp, th, d1, d3, h0, h16, k⟩ := h
  show t_lexp K Z E _ [some (.ref P), some (.int d), some (.int high), none, none, none, none, none] H
  unfold t_lexp
  rw [x_seq]
  simp only [x_if, x_test, x_B, x_op, x_un, x_varS, x_var0, x_c, x_I0, x_I, x_U, x_bl, x_ret, x_next, x_asg, x_name, x_set0, x_setS, x_drop, x_cb, x_cons, x_nil, x_int1, x_abs1, x_max2, x_gcd, x_gsub, x_sl, x_part, x_nopart, x_int, x_call, x_lst, x_tup, x_not, x_and, x_or, x_andV, x_orV, x_notV, x_ifE, x_eqI, x_neI, x_eqB, x_neB, x_tbm, x_never, x_isN, x_notN, decide_eq_true_eq, Bool.false_eq_true, if_false, if_true, List.append_nil, List.nil_append, List.cons_append]
  rw [x_seq]
  simp only [x_if, x_test, x_B, x_op, x_un, x_varS, x_var0, x_c, x_I0, x_I, x_U, x_bl, x_ret, x_next, x_asg, x_name, x_set0, x_setS, x_drop, x_cb, x_cons, x_nil, x_int1, x_abs1, x_max2, x_gcd, x_gsub, x_sl, x_part, x_nopart, x_int, x_call, x_lst, x_tup, x_not, x_and, x_or, x_andV, x_orV, x_notV, x_ifE, x_eqI, x_neI, x_eqB, x_neB, x_tbm, x_never, x_isN, x_notN, decide_eq_true_eq, Bool.false_eq_true, if_false, if_true, List.append_nil, List.nil_append, List.cons_append]
  refine ⟨by decide, fun F hF => ?_⟩
  rw [x_seq]
  have nF : F ≠ P := fun q => by
    obtain ⟨xs, ho⟩ := hp.there
    rw [q, ho] at hF
    cases hF
  refine for_rngE (j := d) (fun QA => by simp only [x_if, x_test, x_B, x_op, x_un, x_varS, x_var0, x_c, x_I0, x_I, x_U, x_bl, x_ret, x_next, x_asg, x_name, x_set0, x_setS, x_drop, x_cb, x_cons, x_nil, x_int1, x_abs1, x_max2, x_gcd, x_gsub, x_sl, x_part, x_nopart, x_int, x_call, x_lst, x_tup, x_not, x_and, x_or, x_andV, x_orV, x_notV, x_ifE, x_eqI, x_neI, x_eqB, x_neB, x_tbm, x_never, x_isN, x_notN, decide_eq_true_eq, Bool.false_eq_true, if_false, if_true, List.append_nil, List.nil_append, List.cons_append]) (by omega) (fun i σ H' => PoolB (fun b => B b ∨ b = F) H' P ∧ Keep P H H' ∧ There (fun b => B b ∨ b = F) H' ∧ ∃ (zs : List Int) (left : Int) (kk ex : Option V), σ = [some (.ref P), some (.int d), some (.int high), some (.int left), some (.ref F), kk, none, ex] ∧ H' F = some (.lst (zs.map V.int)) ∧ zs.length = i ∧ (∀ x ∈ zs, 0 ≤ x) ∧ zs.sum + left = high ∧ 0 ≤ left)
    ⟨hp.more hF, Keep.of (Same.new hF), th.more hF, [], high, none, none, rfl, upd_same, rfl, by simp, by simp, h0⟩ ?_ ?_
  · rintro i σ H' hi ⟨hpi, ki, thi, zs, left, kk, ex, rfl, hf, hl, hpos, hsum, hleft⟩
    have := sum_nonneg zs hpos
    simp only [x_seq, x_if, x_test, x_B, x_op, x_un, x_varS, x_var0, x_c, x_I0, x_I, x_U, x_bl, x_ret, x_next, x_asg, x_name, x_set0, x_setS, x_drop, x_cb, x_cons, x_nil, x_int1, x_abs1, x_max2, x_gcd, x_gsub, x_sl, x_part, x_nopart, x_int, x_call, x_lst, x_tup, x_not, x_and, x_or, x_andV, x_orV, x_notV, x_ifE, x_eqI, x_neI, x_eqB, x_neB, x_tbm, x_never, x_isN, x_notN, decide_eq_true_eq, Bool.false_eq_true, if_false, if_true, List.append_nil, List.nil_append, List.cons_append]
    refine take_to hpi thi (by omega) (by omega) fun e H2 hp2 k2 e0 e1 => ?_
    have hf2 := k2 _ _ nF hf
    have th2 := thi.keep k2 (pool_some hp2)
    simp only [x_seq, x_if, x_test, x_B, x_op, x_un, x_varS, x_var0, x_c, x_I0, x_I, x_U, x_bl, x_ret, x_next, x_asg, x_name, x_set0, x_setS, x_drop, x_cb, x_cons, x_nil, x_int1, x_abs1, x_max2, x_gcd, x_gsub, x_sl, x_part, x_nopart, x_int, x_call, x_lst, x_tup, x_not, x_and, x_or, x_andV, x_orV, x_notV, x_ifE, x_eqI, x_neI, x_eqB, x_neB, x_tbm, x_never, x_isN, x_notN, decide_eq_true_eq, Bool.false_eq_true, if_false, if_true, List.append_nil, List.nil_append, List.cons_append]
    refine ⟨ty_lst hf2, ?_⟩
    rw [x_append hf2 (by rw [List.length_map]; exact Nat.lt_of_lt_of_le (show zs.length < 1000 by omega) (by decide))]
    refine ⟨hp2.put (.inr rfl) nF, ?_, ?_, zs ++ [e], left - e, _, _, rfl, ?_, ?_, ?_, ?_, ?_⟩
    · intro b o n q
      rw [upd_ne (ne_of_none q hF)]
      exact k2 _ _ n (ki _ _ n q)
    · intro b z
      by_cases q : b = F
      · rw [q]
        exact ⟨_, upd_same⟩
      · rw [upd_ne q]
        exact th2 b z
    · rw [upd_same, List.map_append]; rfl
    · rw [List.length_append, List.length_singleton]; omega
    · intro x hx
      rcases List.mem_append.mp hx with h | h
      · exact hpos x h
      · rw [List.mem_singleton.mp h]; exact e0
    · rw [List.sum_append]
      simp
      omega
    · have := e1 (by omega)
      omega
  · rintro σ H' ⟨hpi, ki, thi, zs, left, kk, ex, rfl, hf, hl, hpos, hsum, hleft⟩
    simp only [x_seq, x_if, x_test, x_B, x_op, x_un, x_varS, x_var0, x_c, x_I0, x_I, x_U, x_bl, x_ret, x_next, x_asg, x_name, x_set0, x_setS, x_drop, x_cb, x_cons, x_nil, x_int1, x_abs1, x_max2, x_gcd, x_gsub, x_sl, x_part, x_nopart, x_int, x_call, x_lst, x_tup, x_not, x_and, x_or, x_andV, x_orV, x_notV, x_ifE, x_eqI, x_neI, x_eqB, x_neB, x_tbm, x_never, x_isN, x_notN, decide_eq_true_eq, Bool.false_eq_true, if_false, if_true, List.append_nil, List.nil_append, List.cons_append]
    refine take_to hpi thi (by omega) (by omega) fun c H2 hp2 k2 c0 c1 => ?_
    have hf2 := k2 _ _ nF hf
    have cl := c1 (by omega)
    obtain ⟨n, rfl⟩ := Int.eq_ofNat_of_zero_le c0
    have hn : n ≤ (zs.map V.int).length := by rw [List.length_map]; omega
    simp only [x_seq, x_if, x_test, x_B, x_op, x_un, x_varS, x_var0, x_c, x_I0, x_I, x_U, x_bl, x_ret, x_next, x_asg, x_name, x_set0, x_setS, x_drop, x_cb, x_cons, x_nil, x_int1, x_abs1, x_max2, x_gcd, x_gsub, x_sl, x_part, x_nopart, x_int, x_call, x_lst, x_tup, x_not, x_and, x_or, x_andV, x_orV, x_notV, x_ifE, x_eqI, x_neI, x_eqB, x_neB, x_tbm, x_never, x_isN, x_notN, decide_eq_true_eq, Bool.false_eq_true, if_false, if_true, List.append_nil, List.nil_append, List.cons_append, x_slA hf2]
    intro q1 hq1
    have hf3 := Same.new (o := .lst (cutV (zs.map V.int) (some (n : Int)) none)) hq1 _ _ hf2
    rw [cut_drop hn] at hf3 ⊢
    have e1 : (upd H2 q1 (.lst ((zs.map V.int).drop n))) q1 = some (.lst ((zs.map V.int).drop n)) := upd_same
    have s1 : Same H2 (upd H2 q1 (.lst ((zs.map V.int).drop n))) := Same.new hq1
    generalize upd H2 q1 (.lst ((zs.map V.int).drop n)) = H3 at hf3 e1 s1 ⊢
    rw [x_slA hf3]
    intro q2 hq2
    rw [cut_take hn]
    have e2 : (upd H3 q2 (.lst ((zs.map V.int).take n))) q2 = some (.lst ((zs.map V.int).take n)) := upd_same
    have s2 : Same H3 (upd H3 q2 (.lst ((zs.map V.int).take n))) := Same.new hq2
    have e3 := s2 _ _ e1
    generalize upd H3 q2 (.lst ((zs.map V.int).take n)) = H4 at e2 s2 e3 ⊢
    rw [x_cat e3 e2 (by rw [List.length_drop, List.length_take, List.length_map]; exact sl5 (by omega))]
    intro q3 hq3
    have e4 : (upd H4 q3 (.lst ((zs.map V.int).drop n ++ (zs.map V.int).take n))) q3 = some (.lst ((zs.map V.int).drop n ++ (zs.map V.int).take n)) := upd_same
    have s4 : Same H2 (upd H4 q3 (.lst ((zs.map V.int).drop n ++ (zs.map V.int).take n))) := Same.new' (s1.trans s2) hq3
    generalize upd H4 q3 (.lst ((zs.map V.int).drop n ++ (zs.map V.int).take n)) = H5 at e4 s4 ⊢
    rw [x_tupL e4]
    intro q5 hq5
    have em : (zs.map V.int).drop n ++ (zs.map V.int).take n = (zs.drop n ++ zs.take n).map V.int := by
      rw [List.map_append, List.map_drop, List.map_take]
    rw [em]
    refine k q5 (zs.drop n ++ zs.take n) _ upd_same ?_ ?_ ⟨?_, fun x hx => hpos x (drop_take_mem hx), ?_⟩
    · exact (hp2.same (Same.new' s4 hq5)).less fun b z => .inl z
    · exact (ki.trans k2).trans (Keep.of (Same.new' s4 hq5))
    · rw [List.length_append, List.length_drop, List.length_take]
      omega
    · rw [drop_take_sum]
      omega
theorem GivesE.after {P : Addr} {B : Addr → Prop} {H H1 : Hp} {d high high' : Int} {Q : VK} (k : GivesE P B H d high Q) (s : Keep P H H1) (l : high' ≤ high) : GivesE P B H1 d high' Q := fun q ns H' a b c e => k q ns H' a b (s.trans c) ⟨e.len, e.pos, by have := e.sum; omega⟩
theorem set_sum : ∀ (l : List Int) (n : Nat) (x y : Int), l[n]? = some x → (l.set n y).sum = l.sum - x + y
  | a :: r, 0, x, y, h => by
    cases h
    show (y :: r).sum = _
    rw [List.sum_cons, List.sum_cons]
    omega
  | a :: r, n + 1, x, y, h => by
    show (a :: r.set n y).sum = _
    rw [List.sum_cons, List.sum_cons, set_sum r n x y h]
    omega
  | [], _, _, _, h => by cases h
theorem ixN_nat {n i : Nat} (h : i < n) : ixN n (i : Int) = some i := by
  unfold ixN
  simp [h]
theorem pure_lodeg (vs : List V) (H : Hp) (Q : VK) (E : XK) (h : spLodeg vs H Q E) : t_lodeg K Z E { nx := fun _ H' => Q .non H', rt := Q } (start ["pool", "dimension", "total", "found", "at"] vs) H := by
  obtain ⟨P, d, total, B, rfl, hp, th, d1, d3, h0, h16, k⟩ := h
  show t_lodeg K Z E _ [some (.ref P), some (.int d), some (.int total), none, none] H
  unfold t_lodeg
  simp only [x_seq, x_if, x_test, x_B, x_op, x_un, x_varS, x_var0, x_c, x_I0, x_I, x_U, x_bl, x_ret, x_next, x_asg, x_name, x_set0, x_setS, x_drop, x_cb, x_cons, x_nil, x_int1, x_abs1, x_max2, x_gcd, x_gsub, x_sl, x_part, x_nopart, x_int, x_call, x_lst, x_tup, x_not, x_and, x_or, x_andV, x_orV, x_notV, x_ifE, x_eqI, x_neI, x_eqB, x_neB, x_tbm, x_never, x_isN, x_notN, decide_eq_true_eq, Bool.false_eq_true, if_false, if_true, List.append_nil, List.nil_append, List.cons_append]
  refine ⟨P, d, total, B, rfl, hp, th, d1, d3, h0, h16, fun q ns H1 hq hp1 k1 ex => ?_⟩
  dsimp only
  rw [x_listT hq]
  intro F hF
  have hf : (upd H1 F (.lst (ns.map V.int))) F = some (.lst (ns.map V.int)) := upd_same
  have hp2 : PoolB (fun b => B b ∨ b = F) (upd H1 F (.lst (ns.map V.int))) P := hp1.more hF
  have th1 := th.keep k1 (pool_some hp1)
  have th2 : There (fun b => B b ∨ b = F) (upd H1 F (.lst (ns.map V.int))) := th1.more hF
  have k2 : Keep P H1 (upd H1 F (.lst (ns.map V.int))) := Keep.of (Same.new hF)
  have nF : F ≠ P := fun q => by
    obtain ⟨xs, ho⟩ := hp1.there
    rw [q, ho] at hF
    cases hF
  generalize (upd H1 F (.lst (ns.map V.int))) = H2 at hf hp2 th2 k2
  refine take_to hp2 th2 (by omega) (by omega) fun c H3 hp3 k3 c0 c1 => ?_
  have hf3 := k3 _ _ nF hf
  have cl := c1 (by omega)
  obtain ⟨n, rfl⟩ := Int.eq_ofNat_of_zero_le c0
  have len := ex.len
  obtain ⟨z, hz⟩ := get_lt (ns := ns) (i := n) (by omega)
  simp only [x_seq, x_if, x_test, x_B, x_op, x_un, x_varS, x_var0, x_c, x_I0, x_I, x_U, x_bl, x_ret, x_next, x_asg, x_name, x_set0, x_setS, x_drop, x_cb, x_cons, x_nil, x_int1, x_abs1, x_max2, x_gcd, x_gsub, x_sl, x_part, x_nopart, x_int, x_call, x_lst, x_tup, x_not, x_and, x_or, x_andV, x_orV, x_notV, x_ifE, x_eqI, x_neI, x_eqB, x_neB, x_tbm, x_never, x_isN, x_notN, decide_eq_true_eq, Bool.false_eq_true, if_false, if_true, List.append_nil, List.nil_append, List.cons_append, x_ix hf3 (atI_map' hz), x_sumL hf3]
  rw [x_setL hf3 (ixN_nat (by rw [List.length_map]; omega))]
  have em : ((ns.map V.int).set n (.int (z + total - ns.sum))) = (ns.set n (z + total - ns.sum)).map V.int := by rw [List.map_set]
  rw [em]
  have e4 : (upd H3 F (.lst ((ns.set n (z + total - ns.sum)).map V.int))) F = some (.lst ((ns.set n (z + total - ns.sum)).map V.int)) := upd_same
  have hp4 : PoolB (fun b => B b ∨ b = F) (upd H3 F (.lst ((ns.set n (z + total - ns.sum)).map V.int))) P := hp3.put (.inr rfl) nF
  have k4 : Keep P H1 (upd H3 F (.lst ((ns.set n (z + total - ns.sum)).map V.int))) := fun b o nb e => by
    rw [upd_ne (ne_of_none e hF)]
    exact k3 _ _ nb (k2 _ _ nb e)
  generalize (upd H3 F (.lst ((ns.set n (z + total - ns.sum)).map V.int))) = H4 at e4 hp4 k4
  rw [x_tupL e4]
  intro q5 hq5
  have pos := ex.pos z (List.mem_of_getElem? hz)
  have sum := ex.sum
  refine k q5 _ _ upd_same ((hp4.same (Same.new hq5)).less fun b z => .inl z) ((k1.trans k4).trans (Keep.of (Same.new hq5))) ⟨?_, fun x hx => ?_, ?_⟩
  · rw [List.length_set]
    exact len
  · rcases List.mem_or_eq_of_mem_set hx with h | h
    · exact ex.pos x h
    · omega
  · rw [set_sum ns n z _ hz]
    omega
theorem lc_pureR {ta : TA} {te : TE} {σ : L2.St} {H : Hp} {Q : VK} {n i : Nat} (f : Nat → V) (hv : ∀ QA : List V → Hp → Prop, ta σ H QA = QA [.int (n : Int)] H) (hl : n < 1000)
    (he : ∀ j (H' : Hp) (QQ : VK), j < n → Same H H' → QQ (f j) H' → te ((wipe σ [i]).set i (some (.int (j : Int)))) H' QQ) (k : ∀ D H', Same H H' → H' D = some (.lst ((List.range n).map f)) → Q (.ref D) H') : tLc (iRng1 ta) (gName i) tYes te [i] σ H Q := by
  show ta σ H _
  rw [hv]
  refine ⟨(n : Int), rfl, by omega, by omega, fun D hD => ?_⟩
  rw [Int.toNat_natCast]
  refine lc_range (lo := 0) (fun j H' => Same H H' ∧ H' D = some (.lst ((List.range j).map f))) ⟨Same.new hD, upd_same⟩ (fun j H' hj s => ?_) fun H' s => k D H' s.1 s.2
  refine ⟨wipe1, ?_⟩
  unfold tYes
  dsimp only
  rw [if_pos rfl, Int.zero_add]
  refine he j H' _ hj s.1 ⟨_, s.2, ?_, ?_, ?_⟩
  · rw [List.length_map, List.length_range]
    exact Nat.lt_of_lt_of_le (show j < 1000 by omega) (by decide)
  · intro b o e
    rw [upd_ne (ne_of_none e hD)]
    exact s.1 _ _ e
  · rw [upd_same, List.range_succ, List.map_append]
    rfl
theorem lc_tupE {tv te : TE} {σ : L2.St} {H : Hp} {Q : VK} {p : Addr} {xs : List V} {i : Nat} (hv : ∀ Q : VK, tv σ H Q = Q (.ref p) H) (h : H p = some (.tup xs)) (Pv : Addr → Nat → Hp → Prop) (h0 : ∀ D, H D = none → Pv D 0 (upd H D (.lst [])))
    (hl : ∀ D j H', H D = none → Pv D j H' → H' p = some (.tup xs)) (hs : ∀ D j x H', H D = none → xs[j]? = some x → Pv D j H' → te ((wipe σ [i]).set i (some x)) H' (fun y H4 => ∃ acc, H4 D = some (.lst acc) ∧ acc.length < sizeLine ∧ Pv D (j + 1) (upd H4 D (.lst (acc ++ [y])))))
    (hd : ∀ D H', H D = none → Pv D xs.length H' → Q (.ref D) H') : tLc (iTup K tv) (gName i) tYes te [i] σ H Q := by
  show tv σ H _
  rw [hv]
  refine ⟨p, rfl, ⟨_, SqT.at h⟩, fun D hD => lc_tup (K := K) (a := p) (xs := xs) (Pv D) (h0 D hD) (fun j H' _ s => SqT.at (hl D j H' hD s)) (fun j x H' hj s => ⟨wipe1, ?_⟩) fun H' s => hd D H' hD s⟩
  unfold tYes
  dsimp only
  rw [if_pos rfl]
  exact hs D j x H' hD hj s
/-- two lists of ints added -/
def adds (ns ms : List Int) : List Int := (List.range ns.length).map fun j => ns.getD j 0 + ms.getD j 0
theorem adds_ok {ns ms : List Int} : ∀ {a b : List Int}, a.length = b.length → (adds a b).sum = a.sum + b.sum ∧ ((∀ x ∈ a, 0 ≤ x) → (∀ x ∈ b, 0 ≤ x) → ∀ x ∈ adds a b, 0 ≤ x)
  | [], [], _ => ⟨rfl, fun _ _ x h => by cases h⟩
  | x :: a, y :: b, h => by
    have ih := adds_ok (ns := ns) (ms := ms) (a := a) (b := b) (by simpa using h)
    have e : adds (x :: a) (y :: b) = (x + y) :: adds a b := by
      unfold adds
      rw [List.length_cons, List.range_succ_eq_map, List.map_cons, List.map_map]
      rfl
    rw [e, List.sum_cons, List.sum_cons, List.sum_cons, ih.1]
    refine ⟨by omega, fun h1 h2 z hz => ?_⟩
    rcases List.mem_cons.mp hz with q | q
    · have := h1 x List.mem_cons_self
      have := h2 y List.mem_cons_self
      omega
    · exact ih.2 (fun w hw => h1 w (List.mem_cons_of_mem _ hw)) (fun w hw => h2 w (List.mem_cons_of_mem _ hw)) z q
theorem adds_len {a b : List Int} : (adds a b).length = a.length := by
  unfold adds
  rw [List.length_map, List.length_range]
theorem pure_lsecond (vs : List V) (H : Hp) (Q : VK) (E : XK) (h : spLsecond vs H Q E) : t_lsecond K Z E { nx := fun _ H' => Q .non H', rt := Q } (start ["pool", "first", "kind", "more", "k", "exponent"] vs) H := by
  obtain ⟨P, p, ns, d, B, rfl, hp, th, hq, ex, d1, d3, k⟩ := h
  show t_lsecond K Z E _ [some (.ref P), some (.ref p), none, none, none, none] H
  unfold t_lsecond
  rw [x_seq]
  simp only [x_if, x_test, x_B, x_op, x_un, x_varS, x_var0, x_c, x_I0, x_I, x_U, x_bl, x_ret, x_next, x_asg, x_name, x_set0, x_setS, x_drop, x_cb, x_cons, x_nil, x_int1, x_abs1, x_max2, x_gcd, x_gsub, x_sl, x_part, x_nopart, x_int, x_call, x_lst, x_tup, x_not, x_and, x_or, x_andV, x_orV, x_notV, x_ifE, x_eqI, x_neI, x_eqB, x_neB, x_tbm, x_never, x_isN, x_notN, decide_eq_true_eq, Bool.false_eq_true, if_false, if_true, List.append_nil, List.nil_append, List.cons_append]
  refine take_to hp th (by decide) (by decide) fun kind H1 hp1 k1 _ _ => ?_
  have hq1 := hq.keep hp k1
  have th1 := th.keep k1 (pool_some hp1)
  have len := ex.len
  have sum := ex.sum
  have s0 := sum_nonneg ns ex.pos
  have k' := k.after k1 (Int.le_refl 16)
  rw [x_seq]
  simp only [x_if, x_test, x_B, x_op, x_un, x_varS, x_var0, x_c, x_I0, x_I, x_U, x_bl, x_ret, x_next, x_asg, x_name, x_set0, x_setS, x_drop, x_cb, x_cons, x_nil, x_int1, x_abs1, x_max2, x_gcd, x_gsub, x_sl, x_part, x_nopart, x_int, x_call, x_lst, x_tup, x_not, x_and, x_or, x_andV, x_orV, x_notV, x_ifE, x_eqI, x_neI, x_eqB, x_neB, x_tbm, x_never, x_isN, x_notN, decide_eq_true_eq, Bool.false_eq_true, if_false, if_true, List.append_nil, List.nil_append, List.cons_append, x_lenT hq1, x_sumT hq1, List.length_map]
  refine ite2 (fun _ => ?_) fun _ => ?_
  · exact ⟨P, d, ns.sum, B, by rw [len], hp1, th1, d1, d3, s0, sum, k'.after (Keep.refl _ _) sum⟩
  rw [x_seq]
  simp only [x_if, x_test, x_B, x_op, x_un, x_varS, x_var0, x_c, x_I0, x_I, x_U, x_bl, x_ret, x_next, x_asg, x_name, x_set0, x_setS, x_drop, x_cb, x_cons, x_nil, x_int1, x_abs1, x_max2, x_gcd, x_gsub, x_sl, x_part, x_nopart, x_int, x_call, x_lst, x_tup, x_not, x_and, x_or, x_andV, x_orV, x_notV, x_ifE, x_eqI, x_neI, x_eqB, x_neB, x_tbm, x_never, x_isN, x_notN, decide_eq_true_eq, Bool.false_eq_true, if_false, if_true, List.append_nil, List.nil_append, List.cons_append, x_lenT hq1, x_sumT hq1, List.length_map]
  refine ite2 (fun _ => ?_) fun _ => ?_
  · rw [x_seq]
    simp only [x_if, x_test, x_B, x_op, x_un, x_varS, x_var0, x_c, x_I0, x_I, x_U, x_bl, x_ret, x_next, x_asg, x_name, x_set0, x_setS, x_drop, x_cb, x_cons, x_nil, x_int1, x_abs1, x_max2, x_gcd, x_gsub, x_sl, x_part, x_nopart, x_int, x_call, x_lst, x_tup, x_not, x_and, x_or, x_andV, x_orV, x_notV, x_ifE, x_eqI, x_neI, x_eqB, x_neB, x_tbm, x_never, x_isN, x_notN, decide_eq_true_eq, Bool.false_eq_true, if_false, if_true, List.append_nil, List.nil_append, List.cons_append, x_lenT hq1, x_sumT hq1, List.length_map]
    refine ⟨P, d, 16 - ns.sum, B, by rw [len], hp1, th1, d1, d3, by omega, by omega, fun q ms H2 hm hp2 k2 ex2 => ?_⟩
    have hq2 := hq1.keep hp1 k2
    have len2 := ex2.len
    refine lc_pureR (n := ns.length) (fun j => V.int (ns.getD j 0 + ms.getD j 0)) (fun QA => by simp only [x_if, x_test, x_B, x_op, x_un, x_varS, x_var0, x_c, x_I0, x_I, x_U, x_bl, x_ret, x_next, x_asg, x_name, x_set0, x_setS, x_drop, x_cb, x_cons, x_nil, x_int1, x_abs1, x_max2, x_gcd, x_gsub, x_sl, x_part, x_nopart, x_int, x_call, x_lst, x_tup, x_not, x_and, x_or, x_andV, x_orV, x_notV, x_ifE, x_eqI, x_neI, x_eqB, x_neB, x_tbm, x_never, x_isN, x_notN, decide_eq_true_eq, Bool.false_eq_true, if_false, if_true, List.append_nil, List.nil_append, List.cons_append, x_lenT hq2, List.length_map]) (by omega) (fun j H' QQ hj s kk => ?_) fun D H' s hD => ?_
    · obtain ⟨z, hz⟩ := get_lt hj
      obtain ⟨u, hu⟩ := get_lt (ns := ms) (i := j) (by omega)
      show tOp _ (tOp rIx1 (tVar 1) (tVar 4)) (tOp rIx1 (tVar 3) (tVar 4)) [some (.ref P), some (.ref p), some (.int kind), some (.ref q), some (.int (j : Int)), none] H' QQ
      simp only [x_if, x_test, x_B, x_op, x_un, x_varS, x_var0, x_c, x_I0, x_I, x_U, x_bl, x_ret, x_next, x_asg, x_name, x_set0, x_setS, x_drop, x_cb, x_cons, x_nil, x_int1, x_abs1, x_max2, x_gcd, x_gsub, x_sl, x_part, x_nopart, x_int, x_call, x_lst, x_tup, x_not, x_and, x_or, x_andV, x_orV, x_notV, x_ifE, x_eqI, x_neI, x_eqB, x_neB, x_tbm, x_never, x_isN, x_notN, decide_eq_true_eq, Bool.false_eq_true, if_false, if_true, List.append_nil, List.nil_append, List.cons_append, x_ixT (s _ _ hq2) (atI_map' hz), x_ixT (s _ _ hm) (atI_map' hu)]
      have e1 : ns.getD j 0 = z := by rw [List.getD_eq_getElem?_getD, hz]; rfl
      have e2 : ms.getD j 0 = u := by rw [List.getD_eq_getElem?_getD, hu]; rfl
      rw [e1, e2] at kk
      exact kk
    · rw [x_tupL hD]
      intro q5 hq5
      have e : (List.range ns.length).map (fun j => V.int (ns.getD j 0 + ms.getD j 0)) = (adds ns ms).map V.int := by
        unfold adds
        rw [List.map_map]
        rfl
      rw [e]
      obtain ⟨a1, a2⟩ := adds_ok (ns := ns) (ms := ms) (a := ns) (b := ms) (by omega)
      have := ex2.sum
      exact k' q5 (adds ns ms) _ upd_same (hp2.same (Same.new' s hq5)) (k2.trans (Keep.of (Same.new' s hq5))) ⟨by rw [adds_len]; exact len, a2 ex.pos ex2.pos, by rw [a1]; omega⟩
  rw [x_seq]
  simp only [x_if, x_test, x_B, x_op, x_un, x_varS, x_var0, x_c, x_I0, x_I, x_U, x_bl, x_ret, x_next, x_asg, x_name, x_set0, x_setS, x_drop, x_cb, x_cons, x_nil, x_int1, x_abs1, x_max2, x_gcd, x_gsub, x_sl, x_part, x_nopart, x_int, x_call, x_lst, x_tup, x_not, x_and, x_or, x_andV, x_orV, x_notV, x_ifE, x_eqI, x_neI, x_eqB, x_neB, x_tbm, x_never, x_isN, x_notN, decide_eq_true_eq, Bool.false_eq_true, if_false, if_true, List.append_nil, List.nil_append, List.cons_append]
  refine ite2 (fun _ => ?_) fun _ => ?_
  · rw [x_listT hq1]
    intro l hl
    rw [x_tupL upd_same]
    intro q5 hq5
    exact k' q5 ns _ upd_same (hp1.same (Same.new' (Same.new hl) hq5)) (Keep.of (Same.new' (Same.new hl) hq5)) ex
  rw [x_seq, x_if]
  simp only [x_test, x_op, x_varS, x_var0, x_c, x_eqI, x_bl, decide_eq_true_eq]
  refine ite2 (fun _ => ?_) fun _ => ?_
  · rw [x_ret, x_cb, x_cons]
    -- each exponent drawn below the first's
    refine lc_tupE (fun Q => by simp only [x_if, x_test, x_B, x_op, x_un, x_varS, x_var0, x_c, x_I0, x_I, x_U, x_bl, x_ret, x_next, x_asg, x_name, x_set0, x_setS, x_drop, x_cb, x_cons, x_nil, x_int1, x_abs1, x_max2, x_gcd, x_gsub, x_sl, x_part, x_nopart, x_int, x_call, x_lst, x_tup, x_not, x_and, x_or, x_andV, x_orV, x_notV, x_ifE, x_eqI, x_neI, x_eqB, x_neB, x_tbm, x_never, x_isN, x_notN, decide_eq_true_eq, Bool.false_eq_true, if_false, if_true, List.append_nil, List.nil_append, List.cons_append]) hq1 (fun D j H' => PoolB (fun b => B b ∨ b = D) H' P ∧ There (fun b => B b ∨ b = D) H' ∧ Keep P H1 H' ∧ ∃ zs : List Int, H' D = some (.lst (zs.map V.int)) ∧ zs.length = j ∧ (∀ x ∈ zs, 0 ≤ x) ∧ zs.sum ≤ (ns.take j).sum)
      (fun D hD => ⟨hp1.more hD, th1.more hD, Keep.of (Same.new hD), [], upd_same, rfl, by simp, by simp⟩) (fun D j H' hD s => hq1.keep hp1 s.2.2.1) (fun D j x H' hD hj s => ?_) fun D H' hD s => ?_
    · obtain ⟨hpj, thj, kj, zs, hd, hl, hpos, hsum⟩ := s
      obtain ⟨z, hz, rfl⟩ := int_at hj
      have pz := ex.pos z (List.mem_of_getElem? hz)
      have zb : z ≤ 16 := by
        have e := List.take_append_drop (j + 1) ns
        have e2 : ns.sum = (ns.take (j + 1)).sum + (ns.drop (j + 1)).sum := by rw [← List.sum_append, List.take_append_drop]
        have e3 := sum_nonneg (ns.drop (j + 1)) fun x hx => ex.pos x (List.mem_of_mem_drop hx)
        have e4 := sum_nonneg (ns.take j) fun x hx => ex.pos x (List.mem_of_mem_take hx)
        rw [take_next hz, List.sum_append, List.sum_singleton] at e2
        omega
      show tCall spTakeB [] E0 _ [some (.ref P), some (.ref p), some (.int kind), none, none, some (.int z)] H' _
      simp only [x_if, x_test, x_B, x_op, x_un, x_varS, x_var0, x_c, x_I0, x_I, x_U, x_bl, x_ret, x_next, x_asg, x_name, x_set0, x_setS, x_drop, x_cb, x_cons, x_nil, x_int1, x_abs1, x_max2, x_gcd, x_gsub, x_sl, x_part, x_nopart, x_int, x_call, x_lst, x_tup, x_not, x_and, x_or, x_andV, x_orV, x_notV, x_ifE, x_eqI, x_neI, x_eqB, x_neB, x_tbm, x_never, x_isN, x_notN, decide_eq_true_eq, Bool.false_eq_true, if_false, if_true, List.append_nil, List.nil_append, List.cons_append]
      have nD : D ≠ P := fun q => by
        obtain ⟨xs, ho⟩ := hp1.there
        rw [q, ho] at hD
        cases hD
      refine take_to hpj thj (by omega) (by omega) fun e H2 hp2 k2 e0 e1 => ?_
      have hd2 := k2 _ _ nD hd
      have th2 := thj.keep k2 (pool_some hp2)
      have hlt := (List.getElem?_eq_some_iff.mp hz).1
      refine ⟨_, hd2, by rw [List.length_map]; exact Nat.lt_of_lt_of_le (show zs.length < 1000 by omega) (by decide), hp2.put (.inr rfl) nD, ?_, ?_, zs ++ [e], ?_, ?_, ?_, ?_⟩
      · intro b w
        by_cases q : b = D
        · rw [q]
          exact ⟨_, upd_same⟩
        · rw [upd_ne q]
          exact th2 b w
      · intro b o n q
        rw [upd_ne (ne_of_none q hD)]
        exact k2 _ _ n (kj _ _ n q)
      · rw [upd_same, List.map_append]; rfl
      · rw [List.length_append, List.length_singleton]; omega
      · intro x hx
        rcases List.mem_append.mp hx with h | h
        · exact hpos x h
        · rw [List.mem_singleton.mp h]; exact e0
      · rw [List.sum_append, List.sum_singleton, take_next hz, List.sum_append, List.sum_singleton]
        have := e1 (by omega)
        omega
    · obtain ⟨hpj, thj, kj, zs, hd, hl, hpos, hsum⟩ := s
      rw [x_nil, x_tupL hd]
      intro q5 hq5
      rw [List.length_map] at hl hsum
      rw [List.take_length] at hsum
      exact k' q5 zs _ upd_same ((hpj.same (Same.new hq5)).less fun b z => .inl z) (kj.trans (Keep.of (Same.new hq5))) ⟨by omega, hpos, by omega⟩
  · simp only [x_if, x_test, x_B, x_op, x_un, x_varS, x_var0, x_c, x_I0, x_I, x_U, x_bl, x_ret, x_next, x_asg, x_name, x_set0, x_setS, x_drop, x_cb, x_cons, x_nil, x_int1, x_abs1, x_max2, x_gcd, x_gsub, x_sl, x_part, x_nopart, x_int, x_call, x_lst, x_tup, x_not, x_and, x_or, x_andV, x_orV, x_notV, x_ifE, x_eqI, x_neI, x_eqB, x_neB, x_tbm, x_never, x_isN, x_notN, decide_eq_true_eq, Bool.false_eq_true, if_false, if_true, List.append_nil, List.nil_append, List.cons_append, x_lenT hq1, List.length_map]
    exact ⟨P, d, 16, B, by rw [len], hp1, th1, d1, d3, by decide, by decide, k'⟩
end
end SpX

set_option Elab.async false
set_option linter.all false
set_option maxRecDepth 100000
set_option maxHeartbeats 2000000
namespace SpX
open PySem PySem.Spec L2 StX RZ
theorem at0 {v w : V} : atI [v, w] 0 = some v := rfl
theorem at1 {v w : V} : atI [v, w] 1 = some w := rfl
/-- a list of exponents lies there -/
def ListedAt (H : Hp) (p : Addr) (nss : List (List Int)) : Prop := ∃ ps : List Addr, H p = some (.lst (ps.map V.ref)) ∧ ps.length = nss.length ∧ ∀ (i : Nat) (q : Addr) (ns : List Int), ps[i]? = some q → nss[i]? = some ns → ExpAt H q ns
/-- all of one dimension, in order, of degrees between two -/
structure InOrder (nss : List (List Int)) (d low high : Int) : Prop where
  len : ∀ ns ∈ nss, (ns.length : Int) = d
  pos : ∀ ns ∈ nss, ∀ x ∈ ns, 0 ≤ x
  low : ∀ ns ∈ nss, low ≤ ns.sum
  high : ∀ ns ∈ nss, ns.sum ≤ high
  ord : ∀ (i : Nat) (ns ms : List Int), nss[i]? = some ns → nss[i + 1]? = some ms → HT.lexLt (plc ns) (plc ms) = true
def spListed : Sp := fun vs H Q _ => ∃ (p : Addr) (nss : List (List Int)) (d low high : Int), vs = [.ref p, .int d, .int low, .int high, .int nss.length] ∧ ListedAt H p nss ∧ InOrder nss d low high ∧ d ≤ 3 ∧ Q (.bl true) H
def spRelations : Sp := fun vs H Q _ => ∃ (p q : Addr) (ns ms : List Int), vs = [.ref p, .ref q] ∧ ExpAt H p ns ∧ ExpAt H q ms ∧ Pair ns ms ∧ (∀ x ∈ ns, 0 ≤ x ∧ x ≤ 20) ∧ (∀ x ∈ ms, 0 ≤ x ∧ x ≤ 20) ∧ ∀ H', Same H H' → Q (.bl true) H'
def t_listed (K : PySem.W.Frag) (Z : Addr) (E : XK) : TS :=
    (tSeq (tIfS (tOr (tNot (tB (tCB rIsB (tCons (tVar 0) (tCons (tC (.ty "list")) tNil))))) (tTest (tOp rNe (tCB rLenA (tCons (tVar 0) tNil)) (tVar 4)))) (tRet (tC (.bl false))) tNext)
    (tSeq (tAsg (tC .non) (gName 5))
    (tSeq (tFor (iList K (tVar 0)) (gName 6) ((tSeq (tIfS (tOr (tNot (tB (tCB rIsB (tCons (tVar 6) (tCons (tC (.ty "tuple")) tNil))))) (tTest (tOp rNe (tCB rLenA (tCons (tVar 6) tNil)) (tVar 1)))) (tRet (tC (.bl false))) tNext)
    (tSeq (tFor (iTup K (tVar 6)) (gName 7) ((tIfS (tOr (tNot (tB (tCall spInteger [] E0 (tCons (tVar 7) tNil)))) (tTest (tOp (rI0 fun i j => .bl (decide (i < j))) (tVar 7) (tC (.int 0))))) (tRet (tC (.bl false))) tNext)))
    (tSeq (tIfS (tOr (tTest (tOp (rI0 fun i j => .bl (decide (i < j))) (tCB rSumA (tCons (tVar 6) tNil)) (tVar 2))) (tTest (tOp (rI0 fun i j => .bl (decide (j < i))) (tCB rSumA (tCons (tVar 6) tNil)) (tVar 3)))) (tRet (tC (.bl false))) tNext)
    (tSeq (tIfS (tAnd (tB (tNotN (tVar 5))) (tNot (tB (tCall spLbefore [] E0 (tCons (tVar 5) (tCons (tVar 6) tNil)))))) (tRet (tC (.bl false))) tNext)
    (tAsg (tVar 6) (gName 5))))))))
    (tRet (tC (.bl true))))))
def t_relations (K : PySem.W.Frag) (Z : Addr) (E : XK) : TS :=
    (tSeq (tFor (iList K (tLst (tCons (tTup (tCons (tVar 0) (tCons (tVar 1) tNil))) (tCons (tTup (tCons (tVar 1) (tCons (tVar 0) tNil))) (tCons (tTup (tCons (tVar 0) (tCons (tVar 0) tNil))) (tCons (tTup (tCons (tVar 1) (tCons (tVar 1) tNil))) tNil)))))) (gName 2) ((tSeq (tIfS (tNot (tB (tCall spSays [] E0 (tCons (tCall (spBefore Z) [] E0 (tCons (tOp rIx1 (tVar 2) (tC (.int 0))) (tCons (tOp rIx1 (tVar 2) (tC (.int 1))) tNil))) (tCons (tCall spLbefore [] E0 (tCons (tOp rIx1 (tVar 2) (tC (.int 0))) (tCons (tOp rIx1 (tVar 2) (tC (.int 1))) tNil))) tNil))))) (tRet (tC (.bl false))) tNext)
    (tSeq (tIfS (tNot (tB (tCall spSays [] E0 (tCons (tCall (spDivides Z) [] E0 (tCons (tOp rIx1 (tVar 2) (tC (.int 0))) (tCons (tOp rIx1 (tVar 2) (tC (.int 1))) tNil))) (tCons (tCall spLwithin [] E0 (tCons (tOp rIx1 (tVar 2) (tC (.int 0))) (tCons (tOp rIx1 (tVar 2) (tC (.int 1))) tNil))) tNil))))) (tRet (tC (.bl false))) tNext)
    (tSeq (tAsg (tCall (spMfac Z) [] E0 (tCons (tOp rIx1 (tVar 2) (tC (.int 0))) tNil)) (gName 3))
    (tIfS (tOr (tNot (tB (tCall spInteger [] E0 (tCons (tVar 3) tNil)))) (tTest (tOp rNe (tVar 3) (tCall spLfac [] E0 (tCons (tOp rIx1 (tVar 2) (tC (.int 0))) tNil))))) (tRet (tC (.bl false))) tNext))))))
    (tRet (tC (.bl true))))
section
variable {K : PySem.W.Frag} {Z : Addr}
theorem ref_at {ps : List Addr} {j : Nat} {x : V} (h : (ps.map V.ref)[j]? = some x) : ∃ q, ps[j]? = some q ∧ x = .ref q := by
  rw [List.getElem?_map] at h
  cases e : ps[j]? with
  | none => rw [e] at h; cases h
  | some z => rw [e] at h; exact ⟨z, rfl, (Option.some.inj h).symm⟩
theorem pure_listed (vs : List V) (H : Hp) (Q : VK) (E : XK) (h : spListed vs H Q E) : t_listed K Z E { nx := fun _ H' => Q .non H', rt := Q } (start ["told", "dimension", "low", "high", "many", "before", "exponents", "exponent"] vs) H := by
  obtain ⟨p, nss, d, low, high, rfl, ⟨ps, hp, hl, hat⟩, O, d3, k⟩ := h
  show t_listed K Z E _ [some (.ref p), some (.int d), some (.int low), some (.int high), some (.int nss.length), none, none, none] H
  unfold t_listed
  rw [x_seq]
  simp only [x_if, x_test, x_B, x_op, x_un, x_varS, x_var0, x_c, x_I0, x_I, x_U, x_bl, x_ret, x_next, x_asg, x_name, x_set0, x_setS, x_drop, x_cb, x_cons, x_nil, x_int1, x_abs1, x_max2, x_gcd, x_gsub, x_sl, x_part, x_nopart, x_int, x_call, x_lst, x_tup, x_not, x_and, x_or, x_andV, x_orV, x_notV, x_ifE, x_eqI, x_neI, x_eqB, x_neB, x_tbm, x_never, x_isN, x_notN, decide_eq_true_eq, Bool.false_eq_true, if_false, if_true, List.append_nil, List.nil_append, List.cons_append, x_isLL hp, x_lenA hp, List.length_map, hl, Bool.not_true, ne_eq, not_true, decide_false]
  rw [x_seq]
  simp only [x_if, x_test, x_B, x_op, x_un, x_varS, x_var0, x_c, x_I0, x_I, x_U, x_bl, x_ret, x_next, x_asg, x_name, x_set0, x_setS, x_drop, x_cb, x_cons, x_nil, x_int1, x_abs1, x_max2, x_gcd, x_gsub, x_sl, x_part, x_nopart, x_int, x_call, x_lst, x_tup, x_not, x_and, x_or, x_andV, x_orV, x_notV, x_ifE, x_eqI, x_neI, x_eqB, x_neB, x_tbm, x_never, x_isN, x_notN, decide_eq_true_eq, Bool.false_eq_true, if_false, if_true, List.append_nil, List.nil_append, List.cons_append]
  rw [x_seq]
  refine for_lstE (xs := ps.map V.ref) (fun Q => by simp only [x_if, x_test, x_B, x_op, x_un, x_varS, x_var0, x_c, x_I0, x_I, x_U, x_bl, x_ret, x_next, x_asg, x_name, x_set0, x_setS, x_drop, x_cb, x_cons, x_nil, x_int1, x_abs1, x_max2, x_gcd, x_gsub, x_sl, x_part, x_nopart, x_int, x_call, x_lst, x_tup, x_not, x_and, x_or, x_andV, x_orV, x_notV, x_ifE, x_eqI, x_neI, x_eqB, x_neB, x_tbm, x_never, x_isN, x_notN, decide_eq_true_eq, Bool.false_eq_true, if_false, if_true, List.append_nil, List.nil_append, List.cons_append]) (fun i σ H' => H' = H ∧ ∃ (w : V) (a b : Option V), σ = [some (.ref p), some (.int d), some (.int low), some (.int high), some (.int nss.length), some w, a, b] ∧ ((i = 0 ∧ w = .non) ∨ ∃ j q, i = j + 1 ∧ ps[j]? = some q ∧ w = .ref q)) ⟨rfl, _, _, _, rfl, .inl ⟨rfl, rfl⟩⟩ (fun i σ H' _ z => z.1 ▸ hp) ?_ ?_
  · rintro i y σ H' hi ⟨rfl, w, a, b, rfl, hw⟩
    obtain ⟨q, hq, rfl⟩ := ref_at hi
    have li := (List.getElem?_eq_some_iff.mp hq).1
    have hns : nss[i]? = some (nss[i]'(by omega)) := List.getElem?_eq_getElem (by omega)
    generalize nss[i]'(by omega) = ns at hns
    have mem := List.mem_of_getElem? hns
    have he := hat i q ns hq hns
    have len := O.len ns mem
    have lo := O.low ns mem
    have hi' := O.high ns mem
    simp only [x_name, x_setS, x_set0]
    rw [x_seq]
    simp only [x_if, x_test, x_B, x_op, x_un, x_varS, x_var0, x_c, x_I0, x_I, x_U, x_bl, x_ret, x_next, x_asg, x_name, x_set0, x_setS, x_drop, x_cb, x_cons, x_nil, x_int1, x_abs1, x_max2, x_gcd, x_gsub, x_sl, x_part, x_nopart, x_int, x_call, x_lst, x_tup, x_not, x_and, x_or, x_andV, x_orV, x_notV, x_ifE, x_eqI, x_neI, x_eqB, x_neB, x_tbm, x_never, x_isN, x_notN, decide_eq_true_eq, Bool.false_eq_true, if_false, if_true, List.append_nil, List.nil_append, List.cons_append, x_isTT he, x_lenT he, List.length_map, len, Bool.not_true, ne_eq, not_true, decide_false]
    rw [x_seq]
    refine for_tupE (xs := ns.map V.int) (fun Q => by simp only [x_if, x_test, x_B, x_op, x_un, x_varS, x_var0, x_c, x_I0, x_I, x_U, x_bl, x_ret, x_next, x_asg, x_name, x_set0, x_setS, x_drop, x_cb, x_cons, x_nil, x_int1, x_abs1, x_max2, x_gcd, x_gsub, x_sl, x_part, x_nopart, x_int, x_call, x_lst, x_tup, x_not, x_and, x_or, x_andV, x_orV, x_notV, x_ifE, x_eqI, x_neI, x_eqB, x_neB, x_tbm, x_never, x_isN, x_notN, decide_eq_true_eq, Bool.false_eq_true, if_false, if_true, List.append_nil, List.nil_append, List.cons_append]) (fun n σ H2 => H2 = H' ∧ ∃ b : Option V, σ = [some (.ref p), some (.int d), some (.int low), some (.int high), some (.int nss.length), some w, some (.ref q), b]) ⟨rfl, b, rfl⟩ (fun n σ H2 _ z => z.1 ▸ he) ?_ ?_
    · rintro n y σ H2 hn ⟨rfl, b, rfl⟩
      obtain ⟨z, hz, rfl⟩ := int_at hn
      have pz := O.pos ns mem z (List.mem_of_getElem? hz)
      simp only [x_if, x_test, x_B, x_op, x_un, x_varS, x_var0, x_c, x_I0, x_I, x_U, x_bl, x_ret, x_next, x_asg, x_name, x_set0, x_setS, x_drop, x_cb, x_cons, x_nil, x_int1, x_abs1, x_max2, x_gcd, x_gsub, x_sl, x_part, x_nopart, x_int, x_call, x_lst, x_tup, x_not, x_and, x_or, x_andV, x_orV, x_notV, x_ifE, x_eqI, x_neI, x_eqB, x_neB, x_tbm, x_never, x_isN, x_notN, decide_eq_true_eq, Bool.false_eq_true, if_false, if_true, List.append_nil, List.nil_append, List.cons_append]
      refine ⟨z, rfl, ?_⟩
      refine ⟨true, rfl, ?_⟩
      rw [if_neg (by decide), if_neg (by omega)]
      exact ⟨rfl, _, rfl⟩
    · rintro σ H2 ⟨rfl, b, rfl⟩
      dsimp only
      rw [x_seq]
      simp only [x_if, x_test, x_B, x_op, x_un, x_varS, x_var0, x_c, x_I0, x_I, x_U, x_bl, x_ret, x_next, x_asg, x_name, x_set0, x_setS, x_drop, x_cb, x_cons, x_nil, x_int1, x_abs1, x_max2, x_gcd, x_gsub, x_sl, x_part, x_nopart, x_int, x_call, x_lst, x_tup, x_not, x_and, x_or, x_andV, x_orV, x_notV, x_ifE, x_eqI, x_neI, x_eqB, x_neB, x_tbm, x_never, x_isN, x_notN, decide_eq_true_eq, Bool.false_eq_true, if_false, if_true, List.append_nil, List.nil_append, List.cons_append, x_sumT he]
      rw [if_neg (by omega), if_neg (by omega)]
      rw [x_seq]
      rcases hw with ⟨rfl, rfl⟩ | ⟨j, r, rfl, hr, rfl⟩
      · simp only [x_if, x_test, x_B, x_op, x_un, x_varS, x_var0, x_c, x_I0, x_I, x_U, x_bl, x_ret, x_next, x_asg, x_name, x_set0, x_setS, x_drop, x_cb, x_cons, x_nil, x_int1, x_abs1, x_max2, x_gcd, x_gsub, x_sl, x_part, x_nopart, x_int, x_call, x_lst, x_tup, x_not, x_and, x_or, x_andV, x_orV, x_notV, x_ifE, x_eqI, x_neI, x_eqB, x_neB, x_tbm, x_never, x_isN, x_notN, decide_eq_true_eq, Bool.false_eq_true, if_false, if_true, List.append_nil, List.nil_append, List.cons_append]
        exact ⟨trivial, _, _, _, rfl, .inr ⟨0, q, rfl, hq, rfl⟩⟩
      · have lj := (List.getElem?_eq_some_iff.mp hr).1
        have hms : nss[j]? = some (nss[j]'(by omega)) := List.getElem?_eq_getElem (by omega)
        generalize nss[j]'(by omega) = ms at hms
        have memm := List.mem_of_getElem? hms
        have hm := hat j r ms hr hms
        have lenm := O.len ms memm
        simp only [x_if, x_test, x_B, x_op, x_un, x_varS, x_var0, x_c, x_I0, x_I, x_U, x_bl, x_ret, x_next, x_asg, x_name, x_set0, x_setS, x_drop, x_cb, x_cons, x_nil, x_int1, x_abs1, x_max2, x_gcd, x_gsub, x_sl, x_part, x_nopart, x_int, x_call, x_lst, x_tup, x_not, x_and, x_or, x_andV, x_orV, x_notV, x_ifE, x_eqI, x_neI, x_eqB, x_neB, x_tbm, x_never, x_isN, x_notN, decide_eq_true_eq, Bool.false_eq_true, if_false, if_true, List.append_nil, List.nil_append, List.cons_append]
        refine ⟨r, q, ms, ns, rfl, hm, he, by omega, by omega, ?_⟩
        rw [O.ord j ms ns hms hns]
        exact ⟨true, rfl, rfl, _, _, _, rfl, .inr ⟨j + 1, q, rfl, hq, rfl⟩⟩
  · rintro σ H' ⟨rfl, w, a, b, rfl, hw⟩
    simp only [x_if, x_test, x_B, x_op, x_un, x_varS, x_var0, x_c, x_I0, x_I, x_U, x_bl, x_ret, x_next, x_asg, x_name, x_set0, x_setS, x_drop, x_cb, x_cons, x_nil, x_int1, x_abs1, x_max2, x_gcd, x_gsub, x_sl, x_part, x_nopart, x_int, x_call, x_lst, x_tup, x_not, x_and, x_or, x_andV, x_orV, x_notV, x_ifE, x_eqI, x_neI, x_eqB, x_neB, x_tbm, x_never, x_isN, x_notN, decide_eq_true_eq, Bool.false_eq_true, if_false, if_true, List.append_nil, List.nil_append, List.cons_append]
    exact k
/-- the loop of a for over what a list at a hands out -/
def LoopL (K : PySem.W.Frag) (a : Addr) (g : TG) (tb : TS) : TS := fun D σ H => tFor (iList K (tC (.ref a))) g tb D σ H
theorem x_forL {te : TE} {g : TG} {tb : TS} {D : Ends} {σ : L2.St} {H : Hp} (h : te σ H fun x H1 => ∃ a, x = .ref a ∧ LoopL K a g tb D σ H1) : tFor (iList K te) g tb D σ H := by
  show te σ H _
  have e : (fun x H1 => ∃ a, x = V.ref a ∧ LoopL K a g tb D σ H1) = (fun x H1 => ∃ a, x = V.ref a ∧ (∃ xs, SqL K H1 a xs) ∧ ∃ W : Nat → Nat → L2.St → Hp → Prop, (∃ m, W 0 m σ H1) ∧ ∀ i m σ H, W i m σ H →
      ((Itl K a).stop i H ∧ D.nx σ H) ∨ ((Itl K a).go i H ∧ ∃ N : L2.St → Hp → Prop, (∀ σ' H', N σ' H' → ∃ m', m' < m ∧ W (i + 1) m' σ' H') ∧ ∀ x H', (Itl K a).yld i H x H' → g x σ H' fun σ2 H2 => tb { D with nx := N, ct := N, bk := D.nx } σ2 H2)) := by
    funext x H1
    refine propext ⟨fun ⟨a, e, z⟩ => ?_, fun ⟨a, e, z⟩ => ⟨a, e, a, rfl, z⟩⟩
    obtain ⟨a', e', z⟩ := z
    injection e' with e'
    subst e'
    exact ⟨a, e, z⟩
  rw [e] at h
  exact h
theorem pure_relations (vs : List V) (H : Hp) (Q : VK) (E : XK) (h : spRelations vs H Q E) : t_relations K Z E { nx := fun _ H' => Q .non H', rt := Q } (start ["first", "second", "pair", "told"] vs) H := by
  obtain ⟨p, q, ns, ms, rfl, hp, hq, ok, sn, sm, k⟩ := h
  show t_relations K Z E _ [some (.ref p), some (.ref q), none, none] H
  unfold t_relations
  rw [x_seq]
  refine x_forL ?_
  simp only [x_if, x_test, x_B, x_op, x_un, x_varS, x_var0, x_c, x_I0, x_I, x_U, x_bl, x_ret, x_next, x_asg, x_name, x_set0, x_setS, x_drop, x_cb, x_cons, x_nil, x_int1, x_abs1, x_max2, x_gcd, x_gsub, x_sl, x_part, x_nopart, x_int, x_call, x_lst, x_tup, x_not, x_and, x_or, x_andV, x_orV, x_notV, x_ifE, x_eqI, x_neI, x_eqB, x_neB, x_tbm, x_never, x_isN, x_notN, decide_eq_true_eq, Bool.false_eq_true, if_false, if_true, List.append_nil, List.nil_append, List.cons_append]
  refine ⟨sl5 (by simp), fun T1 h1 => ⟨sl5 (by simp), fun T2 h2 => ⟨sl5 (by simp), fun T3 h3 => ⟨sl5 (by simp), fun T4 h4 => ⟨sl5 (by simp), fun L hL => ⟨L, rfl, ?_⟩⟩⟩⟩⟩⟩
  have ok2 : Pair ms ns := by unfold Pair at ok ⊢; omega
  have ok3 : Pair ns ns := by unfold Pair at ok ⊢; omega
  have ok4 : Pair ms ms := by unfold Pair at ok ⊢; omega
  have s4 : Same H (upd (upd (upd (upd H T1 (.tup [.ref p, .ref q])) T2 (.tup [.ref q, .ref p])) T3 (.tup [.ref p, .ref p])) T4 (.tup [.ref q, .ref q])) := Same.new' (Same.new' (Same.new' (Same.new h1) h2) h3) h4
  have e4 : (upd (upd (upd (upd H T1 (.tup [.ref p, .ref q])) T2 (.tup [.ref q, .ref p])) T3 (.tup [.ref p, .ref p])) T4 (.tup [.ref q, .ref q])) T4 = some (.tup [.ref q, .ref q]) := upd_same
  have e3 := Same.new (o := .tup [.ref q, .ref q]) h4 _ _ (show (upd (upd (upd H T1 (.tup [.ref p, .ref q])) T2 (.tup [.ref q, .ref p])) T3 (.tup [.ref p, .ref p])) T3 = some (.tup [.ref p, .ref p]) from upd_same)
  have e2 := Same.new' (o := .tup [.ref q, .ref q]) (Same.new (o := .tup [.ref p, .ref p]) h3) h4 _ _ (show (upd (upd H T1 (.tup [.ref p, .ref q])) T2 (.tup [.ref q, .ref p])) T2 = some (.tup [.ref q, .ref p]) from upd_same)
  have e1 := Same.new' (o := .tup [.ref q, .ref q]) (Same.new' (o := .tup [.ref p, .ref p]) (Same.new (o := .tup [.ref q, .ref p]) h2) h3) h4 _ _ (show (upd H T1 (.tup [.ref p, .ref q])) T1 = some (.tup [.ref p, .ref q]) from upd_same)
  generalize (upd (upd (upd (upd H T1 (.tup [.ref p, .ref q])) T2 (.tup [.ref q, .ref p])) T3 (.tup [.ref p, .ref p])) T4 (.tup [.ref q, .ref q])) = H4 at s4 e4 e3 e2 e1 hL ⊢
  have s5 : Same H4 (upd H4 L (.lst [.ref T1, .ref T2, .ref T3, .ref T4])) := Same.new hL
  have eL : (upd H4 L (.lst [.ref T1, .ref T2, .ref T3, .ref T4])) L = some (.lst [.ref T1, .ref T2, .ref T3, .ref T4]) := upd_same
  generalize upd H4 L (.lst [.ref T1, .ref T2, .ref T3, .ref T4]) = H5 at s5 eL ⊢
  have s := s4.trans s5
  have all : ∀ (i : Nat) (x : V), [V.ref T1, .ref T2, .ref T3, .ref T4][i]? = some x → ∃ (T a b : Addr) (as bs : List Int), x = .ref T ∧ H5 T = some (.tup [.ref a, .ref b]) ∧ ExpAt H5 a as ∧ ExpAt H5 b bs ∧ Pair as bs ∧ ∀ x ∈ as, 0 ≤ x ∧ x ≤ 20 := by
    have p5 : ExpAt H5 p ns := s _ _ hp
    have q5 : ExpAt H5 q ms := s _ _ hq
    rintro (_ | _ | _ | _ | i) x hx
    · cases hx; exact ⟨T1, p, q, ns, ms, rfl, s5 _ _ e1, p5, q5, ok, sn⟩
    · cases hx; exact ⟨T2, q, p, ms, ns, rfl, s5 _ _ e2, q5, p5, ok2, sm⟩
    · cases hx; exact ⟨T3, p, p, ns, ns, rfl, s5 _ _ e3, p5, p5, ok3, sn⟩
    · cases hx; exact ⟨T4, q, q, ms, ms, rfl, s5 _ _ e4, q5, q5, ok4, sm⟩
    · cases hx
  refine for_lstE (K := K) (xs := [.ref T1, .ref T2, .ref T3, .ref T4]) (fun Q => rfl) (fun i σ H' => Same H5 H' ∧ ∃ a b : Option V, σ = [some (.ref p), some (.ref q), a, b]) ⟨Same.refl _, _, _, rfl⟩ (fun i σ H' _ z => z.1 _ _ eL) ?_ ?_
  · rintro i y σ H' hi ⟨si, w1, w2, rfl⟩
    obtain ⟨T, a, b, as, bs, rfl, hT, ha, hb, okk, sma⟩ := all i y hi
    have okk' := okk
    unfold Pair at okk'
    simp only [x_name, x_setS, x_set0]
    rw [x_seq]
    simp only [x_if, x_test, x_B, x_op, x_un, x_varS, x_var0, x_c, x_I0, x_I, x_U, x_bl, x_ret, x_next, x_asg, x_name, x_set0, x_setS, x_drop, x_cb, x_cons, x_nil, x_int1, x_abs1, x_max2, x_gcd, x_gsub, x_sl, x_part, x_nopart, x_int, x_call, x_lst, x_tup, x_not, x_and, x_or, x_andV, x_orV, x_notV, x_ifE, x_eqI, x_neI, x_eqB, x_neB, x_tbm, x_never, x_isN, x_notN, decide_eq_true_eq, Bool.false_eq_true, if_false, if_true, List.append_nil, List.nil_append, List.cons_append, x_ixT (si _ _ hT) at0, x_ixT (si _ _ hT) at1]
    refine ⟨a, b, as, bs, rfl, si _ _ ha, si _ _ hb, fun z => absurd okk z, fun _ H1 s1 => ?_⟩
    have t1 := si.trans s1
    simp only [x_if, x_test, x_B, x_op, x_un, x_varS, x_var0, x_c, x_I0, x_I, x_U, x_bl, x_ret, x_next, x_asg, x_name, x_set0, x_setS, x_drop, x_cb, x_cons, x_nil, x_int1, x_abs1, x_max2, x_gcd, x_gsub, x_sl, x_part, x_nopart, x_int, x_call, x_lst, x_tup, x_not, x_and, x_or, x_andV, x_orV, x_notV, x_ifE, x_eqI, x_neI, x_eqB, x_neB, x_tbm, x_never, x_isN, x_notN, decide_eq_true_eq, Bool.false_eq_true, if_false, if_true, List.append_nil, List.nil_append, List.cons_append, x_ixT (t1 _ _ hT) at0, x_ixT (t1 _ _ hT) at1]
    refine ⟨a, b, as, bs, rfl, t1 _ _ ha, t1 _ _ hb, by omega, by omega, ?_⟩
    refine ⟨_, _, rfl, ?_⟩
    rw [decide_eq_true rfl]
    refine ⟨true, rfl, ?_⟩
    rw [if_neg (by decide)]
    try dsimp only
    rw [x_seq]
    simp only [x_if, x_test, x_B, x_op, x_un, x_varS, x_var0, x_c, x_I0, x_I, x_U, x_bl, x_ret, x_next, x_asg, x_name, x_set0, x_setS, x_drop, x_cb, x_cons, x_nil, x_int1, x_abs1, x_max2, x_gcd, x_gsub, x_sl, x_part, x_nopart, x_int, x_call, x_lst, x_tup, x_not, x_and, x_or, x_andV, x_orV, x_notV, x_ifE, x_eqI, x_neI, x_eqB, x_neB, x_tbm, x_never, x_isN, x_notN, decide_eq_true_eq, Bool.false_eq_true, if_false, if_true, List.append_nil, List.nil_append, List.cons_append, x_ixT (t1 _ _ hT) at0, x_ixT (t1 _ _ hT) at1]
    refine ⟨a, b, as, bs, rfl, t1 _ _ ha, t1 _ _ hb, fun z => absurd okk z, fun _ H2 s2 => ?_⟩
    have t2 := t1.trans s2
    simp only [x_if, x_test, x_B, x_op, x_un, x_varS, x_var0, x_c, x_I0, x_I, x_U, x_bl, x_ret, x_next, x_asg, x_name, x_set0, x_setS, x_drop, x_cb, x_cons, x_nil, x_int1, x_abs1, x_max2, x_gcd, x_gsub, x_sl, x_part, x_nopart, x_int, x_call, x_lst, x_tup, x_not, x_and, x_or, x_andV, x_orV, x_notV, x_ifE, x_eqI, x_neI, x_eqB, x_neB, x_tbm, x_never, x_isN, x_notN, decide_eq_true_eq, Bool.false_eq_true, if_false, if_true, List.append_nil, List.nil_append, List.cons_append, x_ixT (t2 _ _ hT) at0, x_ixT (t2 _ _ hT) at1]
    refine ⟨a, b, as, bs, rfl, t2 _ _ ha, t2 _ _ hb, by omega, by omega, ?_⟩
    refine ⟨_, _, rfl, ?_⟩
    rw [decide_eq_true rfl]
    refine ⟨true, rfl, ?_⟩
    rw [if_neg (by decide)]
    try dsimp only
    rw [x_seq]
    simp only [x_if, x_test, x_B, x_op, x_un, x_varS, x_var0, x_c, x_I0, x_I, x_U, x_bl, x_ret, x_next, x_asg, x_name, x_set0, x_setS, x_drop, x_cb, x_cons, x_nil, x_int1, x_abs1, x_max2, x_gcd, x_gsub, x_sl, x_part, x_nopart, x_int, x_call, x_lst, x_tup, x_not, x_and, x_or, x_andV, x_orV, x_notV, x_ifE, x_eqI, x_neI, x_eqB, x_neB, x_tbm, x_never, x_isN, x_notN, decide_eq_true_eq, Bool.false_eq_true, if_false, if_true, List.append_nil, List.nil_append, List.cons_append, x_ixT (t2 _ _ hT) at0, x_ixT (t2 _ _ hT) at1]
    refine ⟨a, as, rfl, t2 _ _ ha, fun z => absurd ⟨okk'.1, okk'.2.1⟩ z, fun _ => ⟨sma, ?_⟩⟩
    simp only [x_if, x_test, x_B, x_op, x_un, x_varS, x_var0, x_c, x_I0, x_I, x_U, x_bl, x_ret, x_next, x_asg, x_name, x_set0, x_setS, x_drop, x_cb, x_cons, x_nil, x_int1, x_abs1, x_max2, x_gcd, x_gsub, x_sl, x_part, x_nopart, x_int, x_call, x_lst, x_tup, x_not, x_and, x_or, x_andV, x_orV, x_notV, x_ifE, x_eqI, x_neI, x_eqB, x_neB, x_tbm, x_never, x_isN, x_notN, decide_eq_true_eq, Bool.false_eq_true, if_false, if_true, List.append_nil, List.nil_append, List.cons_append, x_ixT (t2 _ _ hT) at0, x_ixT (t2 _ _ hT) at1]
    refine ⟨_, rfl, true, rfl, ?_⟩
    rw [if_neg (by decide)]
    simp only [x_if, x_test, x_B, x_op, x_un, x_varS, x_var0, x_c, x_I0, x_I, x_U, x_bl, x_ret, x_next, x_asg, x_name, x_set0, x_setS, x_drop, x_cb, x_cons, x_nil, x_int1, x_abs1, x_max2, x_gcd, x_gsub, x_sl, x_part, x_nopart, x_int, x_call, x_lst, x_tup, x_not, x_and, x_or, x_andV, x_orV, x_notV, x_ifE, x_eqI, x_neI, x_eqB, x_neB, x_tbm, x_never, x_isN, x_notN, decide_eq_true_eq, Bool.false_eq_true, if_false, if_true, List.append_nil, List.nil_append, List.cons_append, x_ixT (t2 _ _ hT) at0, x_ixT (t2 _ _ hT) at1]
    refine ⟨a, as, rfl, t2 _ _ ha, okk'.2.1, sma, ?_⟩
    simp only [x_if, x_test, x_B, x_op, x_un, x_varS, x_var0, x_c, x_I0, x_I, x_U, x_bl, x_ret, x_next, x_asg, x_name, x_set0, x_setS, x_drop, x_cb, x_cons, x_nil, x_int1, x_abs1, x_max2, x_gcd, x_gsub, x_sl, x_part, x_nopart, x_int, x_call, x_lst, x_tup, x_not, x_and, x_or, x_andV, x_orV, x_notV, x_ifE, x_eqI, x_neI, x_eqB, x_neB, x_tbm, x_never, x_isN, x_notN, decide_eq_true_eq, Bool.false_eq_true, if_false, if_true, List.append_nil, List.nil_append, List.cons_append]
    rw [if_neg (by simp)]
    exact ⟨t2, _, _, rfl⟩
  · rintro σ H' ⟨si, w1, w2, rfl⟩
    simp only [x_if, x_test, x_B, x_op, x_un, x_varS, x_var0, x_c, x_I0, x_I, x_U, x_bl, x_ret, x_next, x_asg, x_name, x_set0, x_setS, x_drop, x_cb, x_cons, x_nil, x_int1, x_abs1, x_max2, x_gcd, x_gsub, x_sl, x_part, x_nopart, x_int, x_call, x_lst, x_tup, x_not, x_and, x_or, x_andV, x_orV, x_notV, x_ifE, x_eqI, x_neI, x_eqB, x_neB, x_tbm, x_never, x_isN, x_notN, decide_eq_true_eq, Bool.false_eq_true, if_false, if_true, List.append_nil, List.nil_append, List.cons_append]
    exact k _ (s.trans si)
end
end SpX

set_option Elab.async false
set_option linter.all false
set_option maxRecDepth 100000
set_option maxHeartbeats 4000000
/-! A constructor and a method called inside a try. -/
namespace SpX
open PySem PySem.Spec PyProof.Rows L2
section
variable {X : Cx} {CX : CXT} {k : Nat} {f C : Addr} {fd : FuncData} {ps : List Str} {sp : Sp} {E : L2.St → XK} {x m : Str} {p pos apos : Pos} {e o : Expr} {es : List Expr} {ta : TE} {t : TA}
/-- a rule of a call that passes nothing on, at every σ, serves at one σ -/
def tMakeS (C : Addr) (sp : Sp) (E : L2.St → XK) (t : TA) : TE := fun σ H Q => tMake C sp [] (E σ) t σ H Q
def tMethSt (C : Addr) (m : Str) (sp : Sp) (E : L2.St → XK) (ta : TE) (t : TA) : TE := fun σ H Q => tMeth C m sp [] (E σ) ta t σ H Q
theorem make_at_slots {pins : List (Addr × Obj)} {σ : L2.St} {H : Hp} {s : Shared} {Q : VK} {us : List Value} {vs : List V} (M : Mk X.K C f) (F : FnOk X.prog X.w X.K X.mg X.base CX k f fd ps sp) (room : Room (k + 1) X.A) (hb : Binds X.K fd ps []) (hx : PassesAt CX X σ (E σ))
    (I : Inv X pins σ H s) (r : Vals vs us) (h : ∀ x dx, H x = none → H dx = none → dx ≠ x → sp (.ref x :: (vs ++ [])) (upd (upd H dx (.own x)) x (.ins C dx [])) (fun v H2 => v = .non ∧ Q (.ref x) H2) (E σ)) :
    wpAny (model X.prog X.w) X.A (call (.ref C) us) (EP X pins σ Q) X.xe s := by
  have wish := h (s.heap.objs.size + 1) s.heap.objs.size (I.hok.fresh (Nat.le_succ _)) (I.hok.fresh (Nat.le_refl _)) (Nat.ne_of_lt (Nat.lt_succ_self _))
  have laid := Inv.made (C := C) I
  have both : Vals (V.ref (s.heap.objs.size + 1) :: (vs ++ [])) (Value.ref (s.heap.objs.size + 1) :: (us ++ [])) := .cons rfl (r.append .nil)
  have many : (Value.ref (s.heap.objs.size + 1) :: us ++ []).length = ps.length := by
    have len := both.length
    rw [F.len _ _ _ _ wish] at len
    exact len.symm
  have bound := hb _ (Value.ref (s.heap.objs.size + 1) :: us) laid.kIn many
  rw [List.cons_append] at bound
  have run := F.run _ X.stack _ _ ⟨Value.ref (s.heap.objs.size + 1) :: us, []⟩ (Value.ref (s.heap.objs.size + 1) :: (us ++ [])) _ _ (E σ) (room.make C us []) (laid.env0.make C us []) bound both wish
  refine wpAny_call (make_map (f := f) I.kIn M.makes M.init (beq_iff_eq.mp M.fn) (codeAny_mono run fun res s' got => ?_))
  rcases res with er | fl
  · exact hx pins _ _ er s' laid got
  · cases fl with
    | ret u =>
      obtain ⟨v, H', inv, rv, none_, rest⟩ := laid.after got
      subst none_
      exact ⟨rv, ⟨V.ref (s.heap.objs.size + 1), H', inv, rfl, rest⟩⟩
    | next => exact got.elim
    | brk => exact got.elim
    | cont => exact got.elim
theorem pe_makeS (M : Mk X.K C f) (F : FnOk X.prog X.w X.K X.mg X.base CX k f fd ps sp) (room : Room (k + 1) X.A) (hg : Gl X x) (hm : X.mg x = some (.ref C)) (hb : Binds X.K fd ps []) (hx : ∀ σ, PassesAt CX X σ (E σ))
    (ha : PA X (e :: es) t) (hdb : (x == ("__debug__" : Str)) = false := by decide) (he : starEach (e :: es) X.env = (false, eval e X.env) :: starEach es X.env := by rfl) (hpl : (backTo pos (starEach es X.env)).any (·.1) = false := by rfl) :
    PE X (.Call (.Name x p) (e :: es) [] pos) (tMakeS C sp E t) := by
  refine ⟨fun pins s σ H Q inv want => wpAny_Call_Name_kw (ld_glob inv hg hm ?_ hdb)⟩
  refine PySem.W.callWith_K (h₀ := X.base) inv.ok.mod.kin M.kp (thn (ha.run pos pins s σ H _ inv want) fun us s1 got => ?_) he hpl
  obtain ⟨vs, H1, inv1, r, q⟩ := got
  exact ⟨inv1.kIn, make_at_slots M F room hb (hx σ) inv1 r q⟩
theorem pe_methSt {pl : Sem Bool} (he : PE X o ta) (c : Cls X.K C) (hm : Meth X.K C m f) (F : FnOk X.prog X.w X.K X.mg X.base CX k f fd ps sp) (room : Room k X.A) (hb : Binds X.K fd ps []) (hx : ∀ σ, PassesAt CX X σ (E σ)) (ha : PA X (e :: es) t)
    (hst : starEach (e :: es) X.env = (false, eval e X.env) :: starEach es X.env := by rfl) (hpl : (backTo pos (starEach es X.env)).any (·.1) = false := by rfl)
    (ht : eval (.Call (.Attribute o m apos) (e :: es) [] pos) X.env = (do let ov ← eval o X.env; standAt apos.atName; let (f, first) ← holding [ov] (getMethod ov m pl); callWith pos f first (backTo pos (starEach (e :: es) X.env)) (backToKw pos (keywordEach [] X.env))) := by rfl) :
    PE X (.Call (.Attribute o m apos) (e :: es) [] pos) (tMethSt C m sp E ta t) := by
  refine ⟨fun pins s σ H Q inv want => PySem.W.methodCall_KW (pl := pl) (thn (he.run pins s σ H _ inv want) fun u s1 got => ?_) ht⟩
  obtain ⟨y, H1, inv1, ry, a, dx, fs, ey, ea, l, q⟩ := got
  subst ey
  obtain rfl : u = Value.ref a := ry
  refine getmeth_ok inv1 ea c hm l (PySem.W.callWith_K (first := [.ref a]) (h₀ := X.base) inv1.ok.mod.kin hm.kp (thn (ha.run pos pins s1 σ H1 _ inv1 q) fun us s2 got2 => ?_) hst hpl)
  obtain ⟨vs, H2, inv2, r, q2⟩ := got2
  rw [List.append_nil] at q2
  exact ⟨inv2.kIn, run_fnS (us := .ref a :: us) (vs := .ref a :: vs) F room hb (hx σ) inv2 (.cons rfl r) q2⟩
end
section
variable {σ : L2.St} {H : Hp} {Q : VK} {C : Addr} {sp : Sp} {E : L2.St → XK} {ta : TE} {t : TA} {m : Str}
theorem x_makeS : tMakeS C sp E t σ H Q = tMake C sp [] (E σ) t σ H Q := rfl
theorem x_methS : tMethSt C m sp E ta t σ H Q = tMeth C m sp [] (E σ) ta t σ H Q := rfl
end
end SpX

set_option Elab.async false
set_option linter.all false
set_option maxRecDepth 100000
set_option maxHeartbeats 4000000
/-! Law k26: an order of monomials, its methods. -/
namespace SpX
open PySem PySem.Spec L2 StX RZ
/-- a monomial as the ranking reads it; its place in the order -/
def byRank (rk ns : List Int) : List Int := rk.map fun i => ns.getD i.toNat 0
def okey (kd : Str) (rk ns : List Int) : List Int := if kd = ("degree" : Str) then plc (byRank rk ns) else byRank rk ns
def rng (d : Nat) : List Int := (List.range d).map fun i : Nat => (i : Int)
structure GoodO (kd : Str) (rk : List Int) : Prop where
  kind : kd = ("degree" : Str) ∨ kd = ("variables" : Str)
  lo : 1 ≤ rk.length
  hi : rk.length ≤ 3
  perm : rk.Perm (rng rk.length)
def RFO (kd : Str) (o : Addr) (d : Int) : List (Str × V) := [("kind", .str kd), ("ranking", .ref o), ("dimension", .int d)]
def OrdAt (C : Addr) (H : Hp) (p : Addr) (kd : Str) (rk : List Int) : Prop := ∃ dx o, H p = some (.ins C dx (RFO kd o rk.length)) ∧ ExpAt H o rk
theorem OrdAt.same {C : Addr} {H H' : Hp} {p : Addr} {kd : Str} {rk : List Int} (h : OrdAt C H p kd rk) (s : Same H H') : OrdAt C H' p kd rk := by
  obtain ⟨dx, o, h1, h2⟩ := h
  exact ⟨dx, o, s _ _ h1, s _ _ h2⟩
theorem sorted_eq {a b : List Int} (p : a.Perm b) (ha : a.Pairwise (· ≤ ·)) (hb : b.Pairwise (· ≤ ·)) : a = b := List.Perm.eq_of_pairwise (fun x y _ _ h1 h2 => Int.le_antisymm h1 h2) ha hb p
theorem rng_sorted (d : Nat) : (rng d).Pairwise (· ≤ ·) := by
  unfold rng
  rw [List.pairwise_map]
  exact List.pairwise_lt_range.imp fun h => by omega
theorem upTo_rng (d : Nat) : upTo (d : Int) = (rng d).map V.int := by
  unfold upTo rng
  rw [List.map_map, Int.toNat_natCast]
  rfl
theorem rng_mem {d : Nat} {x : Int} (h : x ∈ rng d) : 0 ≤ x ∧ x < d := by
  obtain ⟨i, hi, rfl⟩ := List.mem_map.mp h
  have := List.mem_range.mp hi
  omega
theorem GoodO.mem {kd : Str} {rk : List Int} (g : GoodO kd rk) {x : Int} (h : x ∈ rk) : 0 ≤ x ∧ x < rk.length := rng_mem (g.perm.mem_iff.mp h)
def SeqA (H : Hp) (r : Addr) (xs : List V) : Prop := H r = some (.lst xs) ∨ H r = some (.tup xs)
def spOrder (C BO : Addr) : Sp := fun vs H Q E => ∃ (p dx r : Addr) (kd : Str) (rk : List Int), vs = [.ref p, .str kd, .ref r] ∧ H p = some (.ins C dx []) ∧ SeqA H r (rk.map V.int) ∧ rk.length ≤ 900 ∧
  (¬ GoodO kd rk → ∀ H', Same H H' → E (.ref BO) none H') ∧ (GoodO kd rk → ∀ H' o, Same H H' → ExpAt H' o rk → Q .non (upd H' p (.ins C dx (RFO kd o rk.length))))
def spOPlace (C Z : Addr) : Sp := fun vs H Q E => ∃ (p e : Addr) (kd : Str) (rk ns : List Int), vs = [.ref p, .ref e] ∧ OrdAt C H p kd rk ∧ GoodO kd rk ∧ ExpAt H e ns ∧
  (ns.length ≠ rk.length → E (.ref Z) none H) ∧ (ns.length = rk.length → ∀ q H', ExpAt H' q (okey kd rk ns) → Same H H' → Q (.ref q) H')
def spOPrec (C Z : Addr) : Sp := fun vs H Q E => ∃ (p e f : Addr) (kd : Str) (rk ns ms : List Int), vs = [.ref p, .ref e, .ref f] ∧ OrdAt C H p kd rk ∧ GoodO kd rk ∧ ExpAt H e ns ∧ ExpAt H f ms ∧
  (¬ (ns.length = rk.length ∧ ms.length = rk.length) → ∀ H', Same H H' → E (.ref Z) none H') ∧ (ns.length = rk.length → ms.length = rk.length → ∀ H', Same H H' → Q (.bl (HT.lexLt (okey kd rk ns) (okey kd rk ms))) H')
/-- tuples at es -/
def RowsAt (H : Hp) (es : List Addr) (nss : List (List Int)) : Prop := es.length = nss.length ∧ ∀ (i : Nat) (q : Addr) (ns : List Int), es[i]? = some q → nss[i]? = some ns → ExpAt H q ns
theorem RowsAt.same {H H' : Hp} {es : List Addr} {nss : List (List Int)} (h : RowsAt H es nss) (s : Same H H') : RowsAt H' es nss := ⟨h.1, fun i q ns a b => s _ _ (h.2 i q ns a b)⟩
def spOArr (C Z : Addr) : Sp := fun vs H Q E => ∃ (p l : Addr) (kd : Str) (rk : List Int) (es : List Addr) (nss : List (List Int)), vs = [.ref p, .ref l] ∧ OrdAt C H p kd rk ∧ GoodO kd rk ∧ SeqA H l (es.map V.ref) ∧ RowsAt H es nss ∧ es.length ≤ 900 ∧
  ((∃ ns ∈ nss, ns.length ≠ rk.length) → ∀ H', Same H H' → E (.ref Z) none H') ∧ ((∀ ns ∈ nss, ns.length = rk.length) → ∀ q H', H q = none → Same H H' → H' q = some (.lst (sortBy (es.map V.ref) (nss.map (okey kd rk)))) → Q (.ref q) H')
def spOEq (C : Addr) : Sp := fun vs H Q _ => ∃ (p q : Addr) (kd kd' : Str) (rk rk' : List Int), vs = [.ref p, .ref q] ∧ OrdAt C H p kd rk ∧ OrdAt C H q kd' rk' ∧ Q (.bl (decide (kd = kd' ∧ rk = rk'))) H
def t_oinit (K : PySem.W.Frag) (C Z BO f_oplace : Addr) (E : XK) : TS :=
    (tSeq (tIfS (tAnd (tTest (tOp rNe (tVar 1) (tC (.str "degree")))) (tTest (tOp rNe (tVar 1) (tC (.str "variables"))))) (tRaise0 BO E) tNext)
    (tSeq (tAsg (tCB rLenA (tCons (tVar 2) tNil)) (gName 3))
    (tSeq (tIfS (tOr (tTest (tOp (rI0 fun i j => .bl (decide (i < j))) (tVar 3) (tC (.int 1)))) (tOr (tTest (tOp (rI0 fun i j => .bl (decide (j < i))) (tVar 3) (tC (.int 3)))) (tTest (tOp (rNeP K) (tCB (rSortedI K) (tCons (tCB rListA (tCons (tVar 2) tNil)) tNil)) (tCB rListR (tCons (tCB rRangeV (tCons (tVar 3) tNil)) tNil)))))) (tRaise0 BO E) tNext)
    (tSeq (sFld K (tVar 0) (tVar 1) "kind")
    (tSeq (sFld K (tVar 0) (tCB rTupA (tCons (tVar 2) tNil)) "ranking")
    (sFld K (tVar 0) (tVar 3) "dimension"))))))
section
variable {K : PySem.W.Frag} {C Z BO f_oplace : Addr}
structure FldO (K : PySem.W.Frag) (C : Addr) : Prop where
  cl : Cls K C
  nk : NoAttr K C "kind"
  nr : NoAttr K C "ranking"
  nd : NoAttr K C "dimension"
theorem dp_list {H : Hp} {l : Addr} {ks : List Int} (h : H l = some (.lst (ks.map V.int))) : Dp K H (.ref l) (.list (ks.map PyData.int)) := .lst (SqL.at h) (dp_ints ks)
theorem dp_tup {H : Hp} {l : Addr} {ks : List Int} (h : ExpAt H l ks) : Dp K H (.ref l) (tupD ks) := .tup (SqT.at h) (dp_ints ks)
theorem depth_list (ks : List Int) : (PyData.list (ks.map PyData.int)).depth ≤ 64 := by
  simp only [PyData.depth, depth_ints]
  omega
theorem eqv_list (a b : List Int) : PyData.eqv (.list (a.map PyData.int)) (.list (b.map PyData.int)) = decide (a = b) := by
  rw [PyData.eqv, eqv_ints]
theorem x_fld {to te : TE} {f : Str} {D : Ends} {σ : L2.St} {H : Hp} : sFld K to te f D σ H = te σ H fun y H1 => to σ H1 fun x H2 => ∃ a C dx fs, x = V.ref a ∧ H2 a = some (.ins C dx fs) ∧ Cls K C ∧ NoAttr K C f ∧ fs.length < 1000 ∧ D.nx σ (upd H2 a (.ins C dx (putF f y fs))) := rfl
theorem upd_past {H : Hp} {p o : Addr} {a b t : HO} : upd (upd (upd H p a) o t) p b = upd (upd H o t) p b := by
  funext x
  unfold upd
  by_cases h : x = p <;> simp [h]
def t_oinit_1 (K : PySem.W.Frag) (C Z BO f_oplace : Addr) (E : XK) : TS :=
    (tSeq (tAsg (tCB rLenA (tCons (tVar 2) tNil)) (gName 3))
    (tSeq (tIfS (tOr (tTest (tOp (rI0 fun i j => .bl (decide (i < j))) (tVar 3) (tC (.int 1)))) (tOr (tTest (tOp (rI0 fun i j => .bl (decide (j < i))) (tVar 3) (tC (.int 3)))) (tTest (tOp (rNeP K) (tCB (rSortedI K) (tCons (tCB rListA (tCons (tVar 2) tNil)) tNil)) (tCB rListR (tCons (tCB rRangeV (tCons (tVar 3) tNil)) tNil)))))) (tRaise0 BO E) tNext)
    (tSeq (sFld K (tVar 0) (tVar 1) "kind")
    (tSeq (sFld K (tVar 0) (tCB rTupA (tCons (tVar 2) tNil)) "ranking")
    (sFld K (tVar 0) (tVar 3) "dimension")))))
theorem oinit_1 (T : FldO K C) {H : Hp} {Q : VK} {E : XK} {p dx r : Addr} {kd : Str} {rk : List Int} (hp : H p = some (.ins C dx [])) (hr : SeqA H r (rk.map V.int)) (hz : rk.length ≤ 900) (hk : kd = ("degree" : Str) ∨ kd = ("variables" : Str))
    (ke : ¬ GoodO kd rk → ∀ H', Same H H' → E (.ref BO) none H') (k : GoodO kd rk → ∀ H' o, Same H H' → ExpAt H' o rk → Q .non (upd H' p (.ins C dx (RFO kd o rk.length)))) :
    t_oinit_1 K C Z BO f_oplace E { nx := fun _ H' => Q .non H', rt := Q } [some (.ref p), some (.str kd), some (.ref r), none] H := by
  unfold t_oinit_1
  rw [x_seq]
  simp only [x_if, x_test, x_B, x_op, x_un, x_varS, x_var0, x_c, x_I0, x_I, x_U, x_bl, x_ret, x_next, x_eqS, x_neS, x_m0, x_m1, x_isStr, x_SM, x_addT, x_slS, x_lenS, x_strI, x_mulS, x_startT, x_findT, x_preT, x_lstT, x_ascT, x_digT, x_jn, x_js0, x_js1, x_isS, x_fmt, x_fmtS, x_divW, x_truK, x_truS, x_raiseT, x_asg, x_name, x_set0, x_setS, x_drop, x_cb, x_cons, x_nil, x_int1, x_abs1, x_max2, x_gcd, x_gsub, x_sl, x_part, x_nopart, x_int, x_call, x_lst, x_tup, x_not, x_and, x_or, x_andV, x_orV, x_notV, x_ifE, x_eqI, x_neI, x_eqB, x_neB, x_tbm, x_never, x_make, x_meth, x_isII, x_isIC, x_bool1, decide_eq_true_eq, Bool.false_eq_true, if_false, if_true, List.append_nil, List.nil_append, List.cons_append]
  refine ⟨r, rk.map V.int, rfl, hr, ?_⟩
  simp only [x_if, x_test, x_B, x_op, x_un, x_varS, x_var0, x_c, x_I0, x_I, x_U, x_bl, x_ret, x_next, x_eqS, x_neS, x_m0, x_m1, x_isStr, x_SM, x_addT, x_slS, x_lenS, x_strI, x_mulS, x_startT, x_findT, x_preT, x_lstT, x_ascT, x_digT, x_jn, x_js0, x_js1, x_isS, x_fmt, x_fmtS, x_divW, x_truK, x_truS, x_raiseT, x_asg, x_name, x_set0, x_setS, x_drop, x_cb, x_cons, x_nil, x_int1, x_abs1, x_max2, x_gcd, x_gsub, x_sl, x_part, x_nopart, x_int, x_call, x_lst, x_tup, x_not, x_and, x_or, x_andV, x_orV, x_notV, x_ifE, x_eqI, x_neI, x_eqB, x_neB, x_tbm, x_never, x_make, x_meth, x_isII, x_isIC, x_bool1, decide_eq_true_eq, Bool.false_eq_true, if_false, if_true, List.append_nil, List.nil_append, List.cons_append]
  rw [x_seq]
  simp only [x_if, x_test, x_B, x_op, x_un, x_varS, x_var0, x_c, x_I0, x_I, x_U, x_bl, x_ret, x_next, x_eqS, x_neS, x_m0, x_m1, x_isStr, x_SM, x_addT, x_slS, x_lenS, x_strI, x_mulS, x_startT, x_findT, x_preT, x_lstT, x_ascT, x_digT, x_jn, x_js0, x_js1, x_isS, x_fmt, x_fmtS, x_divW, x_truK, x_truS, x_raiseT, x_asg, x_name, x_set0, x_setS, x_drop, x_cb, x_cons, x_nil, x_int1, x_abs1, x_max2, x_gcd, x_gsub, x_sl, x_part, x_nopart, x_int, x_call, x_lst, x_tup, x_not, x_and, x_or, x_andV, x_orV, x_notV, x_ifE, x_eqI, x_neI, x_eqB, x_neB, x_tbm, x_never, x_make, x_meth, x_isII, x_isIC, x_bool1, decide_eq_true_eq, Bool.false_eq_true, if_false, if_true, List.append_nil, List.nil_append, List.cons_append, List.length_map]
  refine ite2 (fun h => ke (fun g => by have := g.lo; omega) H fun _ _ z => z) fun h1 => ite2 (fun h => ke (fun g => by have := g.hi; omega) H fun _ _ z => z) fun h3 => ?_
  refine ⟨r, rk.map V.int, rfl, hr, fun l hl => ⟨l, rk, rfl, SqL.at upd_same, fun ns' q perm sorted hq => ⟨(rk.length : Int), rfl, fun p2 hp2 => ⟨p2, (rk.length : Int), rfl, upd_same, by omega, by omega, fun l2 hl2 => ?_⟩⟩⟩⟩
  have sm : Same H (upd (upd (upd (upd H l (.lst (rk.map V.int))) q (.lst (ns'.map V.int))) p2 (.rng 0 rk.length)) l2 (.lst (upTo rk.length))) := Same.new' (Same.new' (Same.new' (Same.new hl) hq) hp2) hl2
  have eq : (upd (upd (upd (upd H l (.lst (rk.map V.int))) q (.lst (ns'.map V.int))) p2 (.rng 0 rk.length)) l2 (.lst (upTo rk.length))) q = some (.lst (ns'.map V.int)) := Same.new hl2 _ _ (Same.new hp2 _ _ upd_same)
  have el : (upd (upd (upd (upd H l (.lst (rk.map V.int))) q (.lst (ns'.map V.int))) p2 (.rng 0 rk.length)) l2 (.lst (upTo rk.length))) l2 = some (.lst ((rng rk.length).map V.int)) := by rw [upd_same, upTo_rng]
  generalize (upd (upd (upd (upd H l (.lst (rk.map V.int))) q (.lst (ns'.map V.int))) p2 (.rng 0 rk.length)) l2 (.lst (upTo rk.length))) = H4 at sm eq el ⊢
  refine ⟨.list (ns'.map PyData.int), .list ((rng rk.length).map PyData.int), dp_list eq, dp_list el, plain_ints _, plain_ints _, depth_list _, _, rfl, ?_⟩
  rw [eqv_list]
  have hn : (ns' = rng rk.length) ↔ rk.Perm (rng rk.length) := ⟨fun e => by rw [← e]; exact perm.symm, fun z => sorted_eq (perm.trans z) sorted (rng_sorted _)⟩
  refine ite2 (fun h => ke (fun g => ?_) H4 sm) fun h => ?_
  · have := hn.mpr g.perm
    simp [this] at h
  · have g : GoodO kd rk := ⟨hk, by omega, by omega, hn.mp (by simpa using h)⟩
    have hp4 := sm _ _ hp
    rw [x_seq]
    rw [x_fld]
    simp only [x_if, x_test, x_B, x_op, x_un, x_varS, x_var0, x_c, x_I0, x_I, x_U, x_bl, x_ret, x_next, x_eqS, x_neS, x_m0, x_m1, x_isStr, x_SM, x_addT, x_slS, x_lenS, x_strI, x_mulS, x_startT, x_findT, x_preT, x_lstT, x_ascT, x_digT, x_jn, x_js0, x_js1, x_isS, x_fmt, x_fmtS, x_divW, x_truK, x_truS, x_raiseT, x_asg, x_name, x_set0, x_setS, x_drop, x_cb, x_cons, x_nil, x_int1, x_abs1, x_max2, x_gcd, x_gsub, x_sl, x_part, x_nopart, x_int, x_call, x_lst, x_tup, x_not, x_and, x_or, x_andV, x_orV, x_notV, x_ifE, x_eqI, x_neI, x_eqB, x_neB, x_tbm, x_never, x_make, x_meth, x_isII, x_isIC, x_bool1, decide_eq_true_eq, Bool.false_eq_true, if_false, if_true, List.append_nil, List.nil_append, List.cons_append]
    refine ⟨p, C, dx, [], rfl, hp4, T.cl, T.nk, by decide, ?_⟩
    rw [x_seq]
    rw [x_fld]
    simp only [x_if, x_test, x_B, x_op, x_un, x_varS, x_var0, x_c, x_I0, x_I, x_U, x_bl, x_ret, x_next, x_eqS, x_neS, x_m0, x_m1, x_isStr, x_SM, x_addT, x_slS, x_lenS, x_strI, x_mulS, x_startT, x_findT, x_preT, x_lstT, x_ascT, x_digT, x_jn, x_js0, x_js1, x_isS, x_fmt, x_fmtS, x_divW, x_truK, x_truS, x_raiseT, x_asg, x_name, x_set0, x_setS, x_drop, x_cb, x_cons, x_nil, x_int1, x_abs1, x_max2, x_gcd, x_gsub, x_sl, x_part, x_nopart, x_int, x_call, x_lst, x_tup, x_not, x_and, x_or, x_andV, x_orV, x_notV, x_ifE, x_eqI, x_neI, x_eqB, x_neB, x_tbm, x_never, x_make, x_meth, x_isII, x_isIC, x_bool1, decide_eq_true_eq, Bool.false_eq_true, if_false, if_true, List.append_nil, List.nil_append, List.cons_append]
    have fin : ∀ (o : Addr) (H5 : Hp), Same H4 H5 → ExpAt H5 o rk → o ≠ p → sFld K (tVar 0) (tVar 3) "dimension" { nx := fun _ H' => Q .non H', rt := Q } [some (.ref p), some (.str kd), some (.ref r), some (.int rk.length)] (upd H5 p (.ins C dx [("kind", .str kd), ("ranking", .ref o)])) := by
      intro o H5 s5 h5 np
      rw [x_fld]
      simp only [x_if, x_test, x_B, x_op, x_un, x_varS, x_var0, x_c, x_I0, x_I, x_U, x_bl, x_ret, x_next, x_eqS, x_neS, x_m0, x_m1, x_isStr, x_SM, x_addT, x_slS, x_lenS, x_strI, x_mulS, x_startT, x_findT, x_preT, x_lstT, x_ascT, x_digT, x_jn, x_js0, x_js1, x_isS, x_fmt, x_fmtS, x_divW, x_truK, x_truS, x_raiseT, x_asg, x_name, x_set0, x_setS, x_drop, x_cb, x_cons, x_nil, x_int1, x_abs1, x_max2, x_gcd, x_gsub, x_sl, x_part, x_nopart, x_int, x_call, x_lst, x_tup, x_not, x_and, x_or, x_andV, x_orV, x_notV, x_ifE, x_eqI, x_neI, x_eqB, x_neB, x_tbm, x_never, x_make, x_meth, x_isII, x_isIC, x_bool1, decide_eq_true_eq, Bool.false_eq_true, if_false, if_true, List.append_nil, List.nil_append, List.cons_append]
      refine ⟨p, C, dx, _, rfl, upd_same, T.cl, T.nd, by show 2 < 1000; decide, ?_⟩
      rw [upd_upd]
      exact k g H5 o (sm.trans s5) h5
    have nrp : r ≠ p := fun e => by
      rcases hr with h | h <;> rw [e, hp] at h <;> cases h
    rcases hr with hr | hr
    · refine ⟨r, rk.map V.int, rfl, .inl ⟨by rw [upd_ne nrp]; exact sm _ _ hr, fun o ho => ?_⟩⟩
      have nop : o ≠ p := fun e => by
        rw [e, upd_same] at ho
        cases ho
      have ho4 : H4 o = none := by rwa [upd_ne nop] at ho
      refine ⟨p, C, dx, _, rfl, by rw [upd_ne nop.symm]; exact upd_same, T.cl, T.nr, by show 1 < 1000; decide, ?_⟩
      rw [upd_past]
      exact fin o _ (Same.new ho4) upd_same nop
    · refine ⟨r, rk.map V.int, rfl, .inr ⟨by rw [upd_ne nrp]; exact sm _ _ hr, p, C, dx, _, rfl, upd_same, T.cl, T.nr, by show 1 < 1000; decide, ?_⟩⟩
      rw [upd_upd]
      exact fin r H4 (fun _ _ z => z) (sm _ _ hr) nrp
theorem pure_oinit (T : FldO K C) (vs : List V) (H : Hp) (Q : VK) (E : XK) (h : spOrder C BO vs H Q E) : t_oinit K C Z BO f_oplace E { nx := fun _ H' => Q .non H', rt := Q } (start ["self", "kind", "ranking", "dimension"] vs) H := by
  obtain ⟨p, dx, r, kd, rk, rfl, hp, hr, hz, ke, k⟩ := h
  show t_oinit K C Z BO f_oplace E _ [some (.ref p), some (.str kd), some (.ref r), none] H
  unfold t_oinit
  rw [x_seq]
  simp only [x_if, x_test, x_B, x_op, x_un, x_varS, x_var0, x_c, x_I0, x_I, x_U, x_bl, x_ret, x_next, x_eqS, x_neS, x_m0, x_m1, x_isStr, x_SM, x_addT, x_slS, x_lenS, x_strI, x_mulS, x_startT, x_findT, x_preT, x_lstT, x_ascT, x_digT, x_jn, x_js0, x_js1, x_isS, x_fmt, x_fmtS, x_divW, x_truK, x_truS, x_raiseT, x_asg, x_name, x_set0, x_setS, x_drop, x_cb, x_cons, x_nil, x_int1, x_abs1, x_max2, x_gcd, x_gsub, x_sl, x_part, x_nopart, x_int, x_call, x_lst, x_tup, x_not, x_and, x_or, x_andV, x_orV, x_notV, x_ifE, x_eqI, x_neI, x_eqB, x_neB, x_tbm, x_never, x_make, x_meth, x_isII, x_isIC, x_bool1, decide_eq_true_eq, Bool.false_eq_true, if_false, if_true, List.append_nil, List.nil_append, List.cons_append]
  refine ite2 (fun h1 => ite2 (fun h2 => ke (fun g => ?_) H fun _ _ z => z) fun h2 => ?_) fun h1 => ?_
  · rcases g.kind with e | e <;> simp [e] at h1 h2
  · exact oinit_1 (Z := Z) (f_oplace := f_oplace) T hp hr hz (.inr (by simpa using h2)) ke k
  · exact oinit_1 (Z := Z) (f_oplace := f_oplace) T hp hr hz (.inl (by simpa using h1)) ke k
end
end SpX

set_option Elab.async false
set_option linter.all false
set_option maxRecDepth 100000
set_option maxHeartbeats 4000000
/-! Law k26: an order's methods. -/
namespace SpX
open PySem PySem.Spec L2 StX RZ
def t_oplace (K : PySem.W.Frag) (C Z BO f_oplace : Addr) (E : XK) : TS :=
    (tSeq (tDrop (tCall (spChke Z) [] E (tCons (tVar 1) (tCons (tUn (rFld C "dimension") (tVar 0)) tNil))))
    (tSeq (tAsg (tLc (iTup K (tUn (rFld C "ranking") (tVar 0))) (gName 3) tYes (tOp rIx1 (tVar 1) (tVar 3)) [3]) (gName 2))
    (tSeq (tIfS (tTest (tOp rEq (tUn (rFld C "kind") (tVar 0)) (tC (.str "degree")))) (tRet (tTup (tCons (tCB rSumA (tCons (tVar 2) tNil)) (tStar K (tLc (iList K (tVar 2)) (gName 4) tYes (tUn (rU fun i => .int (-i)) (tVar 4)) [4]) tNil)))) tNext)
    (tRet (tCB rTupA (tCons (tVar 2) tNil))))))
def t_oprec (K : PySem.W.Frag) (C Z BO f_oplace : Addr) (E : XK) : TS :=
    (tRet (tOp rLtA (tMeth C "_place" (spOPlace C Z) [] E (tVar 0) (tCons (tVar 1) tNil)) (tMeth C "_place" (spOPlace C Z) [] E (tVar 0) (tCons (tVar 2) tNil))))
def t_oarr (K : PySem.W.Frag) (C Z BO f_oplace : Addr) (E : XK) : TS :=
    (tRet (tCKw (rSortMeth K f_oplace (spOPlace C Z) E) (tCons (tCB rListA (tCons (tVar 1) tNil)) tNil) (tCons (tBound C "_place" f_oplace (tVar 0)) tNil)))
def t_oeq (K : PySem.W.Frag) (C Z BO f_oplace : Addr) (E : XK) : TS :=
    (tRet (tAndV (tCB (rIsA C) (tCons (tVar 1) (tCons (tC (.ref C)) tNil))) (tAndV (tOp rEq (tUn (rFld C "kind") (tVar 0)) (tUn (rFld C "kind") (tVar 1))) (tOp (rEqP K) (tUn (rFld C "ranking") (tVar 0)) (tUn (rFld C "ranking") (tVar 1))))))
section
variable {K : PySem.W.Frag} {C Z BO f_oplace : Addr}
theorem x_fldv {H : Hp} {Q : VK} {p dx : Addr} {fs : List (Str × V)} {f : Str} {v : V} (h : H p = some (.ins C dx fs)) (l : fs.lookup f = some v) : rFld C f (.ref p) H Q = Q v H := propext (Iff.intro
  (fun ⟨_, _, _, _, e1, h1, h2, q⟩ => by
    cases e1
    rw [h] at h1
    cases h1
    rw [l] at h2
    cases h2
    exact q)
  fun q => ⟨_, _, _, _, rfl, h, l, q⟩)
theorem lk_ne {f g : Str} {v : V} {r : List (Str × V)} (h : (f == g) = false) : List.lookup f ((g, v) :: r) = List.lookup f r := by
  rw [List.lookup_cons, h]
theorem lk_eq {f : Str} {v : V} {r : List (Str × V)} : List.lookup f ((f, v) :: r) = some v := by
  rw [List.lookup_cons, show (f == f) = true from beq_self_eq_true f]
theorem lk_kind {kd : Str} {o : Addr} {d : Int} : (RFO kd o d).lookup ("kind" : Str) = some (V.str kd) := lk_eq
theorem lk_rank {kd : Str} {o : Addr} {d : Int} : (RFO kd o d).lookup ("ranking" : Str) = some (V.ref o) := by
  unfold RFO
  rw [lk_ne (by decide +kernel)]
  exact lk_eq
theorem lk_dim {kd : Str} {o : Addr} {d : Int} : (RFO kd o d).lookup ("dimension" : Str) = some (V.int d) := by
  unfold RFO
  rw [lk_ne (by decide +kernel), lk_ne (by decide +kernel)]
  exact lk_eq
theorem lk_place {kd : Str} {o : Addr} {d : Int} : (RFO kd o d).lookup ("_place" : Str) = none := by
  unfold RFO
  rw [lk_ne (by decide +kernel), lk_ne (by decide +kernel), lk_ne (by decide +kernel)]
  rfl
theorem lc_pureL {tv te : TE} {σ : L2.St} {H : Hp} {Q : VK} {p : Addr} {xs : List V} {i : Nat} (f : Nat → V) (hv : ∀ Q : VK, tv σ H Q = Q (.ref p) H) (h : H p = some (.lst xs)) (hl : xs.length < 1000)
    (he : ∀ j x (H' : Hp) (QQ : VK), xs[j]? = some x → Same H H' → QQ (f j) H' → te ((wipe σ [i]).set i (some x)) H' QQ) (k : ∀ D H', Same H H' → H' D = some (.lst ((List.range xs.length).map f)) → Q (.ref D) H') : tLc (iList K tv) (gName i) tYes te [i] σ H Q := by
  show tv σ H _
  rw [hv]
  refine ⟨p, rfl, ⟨_, SqL.at h⟩, fun D hD => lc_list (K := K) (a := p) (xs := xs) (fun j H' => Same H H' ∧ H' D = some (.lst ((List.range j).map f))) ⟨Same.new hD, upd_same⟩ (fun j H' _ s => SqL.at (s.1 _ _ h)) (fun j x H' hj s => ⟨wipe1, ?_⟩) fun H' s => k D H' s.1 s.2⟩
  unfold tYes
  dsimp only
  rw [if_pos rfl]
  refine he j x H' _ hj s.1 ⟨_, s.2, ?_, fun b o e => ?_, ?_⟩
  · have := (List.getElem?_eq_some_iff.mp hj).1
    rw [List.length_map, List.length_range]
    exact Nat.lt_of_lt_of_le (show j < 1000 by omega) (by decide)
  · rw [upd_ne (ne_of_none e hD)]
    exact s.1 _ _ e
  · rw [upd_same, List.range_succ, List.map_append]
    rfl
theorem atI_nth {ns : List Int} {z : Int} (h0 : 0 ≤ z) (h1 : z < ns.length) : atI (ns.map V.int) z = some (.int (ns.getD z.toNat 0)) := by
  obtain ⟨n, rfl⟩ := Int.eq_ofNat_of_zero_le h0
  have hn : n < ns.length := by omega
  refine atI_nat ?_
  rw [List.getElem?_map, List.getElem?_eq_getElem hn]
  simp [List.getD_eq_getElem?_getD, List.getElem?_eq_getElem hn]
theorem pure_oplace (vs : List V) (H : Hp) (Q : VK) (E : XK) (h : spOPlace C Z vs H Q E) : t_oplace K C Z BO f_oplace E { nx := fun _ H' => Q .non H', rt := Q } (start ["self", "exponents", "ranked", "index", "exponent"] vs) H := by
  obtain ⟨p, e, kd, rk, ns, rfl, ⟨dx, o, hp, ho⟩, g, he, kz, k⟩ := h
  show t_oplace K C Z BO f_oplace E _ [some (.ref p), some (.ref e), none, none, none] H
  unfold t_oplace
  rw [x_seq]
  simp only [x_if, x_test, x_B, x_op, x_un, x_varS, x_var0, x_c, x_I0, x_I, x_U, x_bl, x_ret, x_next, x_eqS, x_neS, x_m0, x_m1, x_isStr, x_SM, x_addT, x_slS, x_lenS, x_strI, x_mulS, x_startT, x_findT, x_preT, x_lstT, x_ascT, x_digT, x_jn, x_js0, x_js1, x_isS, x_fmt, x_fmtS, x_divW, x_truK, x_truS, x_raiseT, x_asg, x_name, x_set0, x_setS, x_drop, x_cb, x_cons, x_nil, x_int1, x_abs1, x_max2, x_gcd, x_gsub, x_sl, x_part, x_nopart, x_int, x_call, x_lst, x_tup, x_not, x_and, x_or, x_andV, x_orV, x_notV, x_ifE, x_eqI, x_neI, x_eqB, x_neB, x_tbm, x_never, x_make, x_meth, x_isII, x_isIC, x_bool1, decide_eq_true_eq, Bool.false_eq_true, if_false, if_true, List.append_nil, List.nil_append, List.cons_append, x_fldv hp lk_dim]
  refine ⟨e, ns, (rk.length : Int), rfl, he, fun h => kz fun z => h (by omega), fun h => ?_⟩
  have hl : ns.length = rk.length := by omega
  dsimp only
  rw [x_seq]
  rw [x_asg]
  refine lc_pureT (fun j => V.int ((byRank rk ns).getD j 0)) (fun Q => by simp only [x_if, x_test, x_B, x_op, x_un, x_varS, x_var0, x_c, x_I0, x_I, x_U, x_bl, x_ret, x_next, x_eqS, x_neS, x_m0, x_m1, x_isStr, x_SM, x_addT, x_slS, x_lenS, x_strI, x_mulS, x_startT, x_findT, x_preT, x_lstT, x_ascT, x_digT, x_jn, x_js0, x_js1, x_isS, x_fmt, x_fmtS, x_divW, x_truK, x_truS, x_raiseT, x_asg, x_name, x_set0, x_setS, x_drop, x_cb, x_cons, x_nil, x_int1, x_abs1, x_max2, x_gcd, x_gsub, x_sl, x_part, x_nopart, x_int, x_call, x_lst, x_tup, x_not, x_and, x_or, x_andV, x_orV, x_notV, x_ifE, x_eqI, x_neI, x_eqB, x_neB, x_tbm, x_never, x_make, x_meth, x_isII, x_isIC, x_bool1, decide_eq_true_eq, Bool.false_eq_true, if_false, if_true, List.append_nil, List.nil_append, List.cons_append, x_fldv hp lk_rank]) ho (by rw [List.length_map]; have := g.hi; omega) (fun j x H' QQ hj s kk => ?_) fun D H1 s hD => ?_
  · obtain ⟨z, hz, rfl⟩ := int_at hj
    have zm := g.mem (List.mem_of_getElem? hz)
    show tOp rIx1 (tVar 1) (tVar 3) [some (.ref p), some (.ref e), none, some (.int z), none] H' QQ
    simp only [x_if, x_test, x_B, x_op, x_un, x_varS, x_var0, x_c, x_I0, x_I, x_U, x_bl, x_ret, x_next, x_eqS, x_neS, x_m0, x_m1, x_isStr, x_SM, x_addT, x_slS, x_lenS, x_strI, x_mulS, x_startT, x_findT, x_preT, x_lstT, x_ascT, x_digT, x_jn, x_js0, x_js1, x_isS, x_fmt, x_fmtS, x_divW, x_truK, x_truS, x_raiseT, x_asg, x_name, x_set0, x_setS, x_drop, x_cb, x_cons, x_nil, x_int1, x_abs1, x_max2, x_gcd, x_gsub, x_sl, x_part, x_nopart, x_int, x_call, x_lst, x_tup, x_not, x_and, x_or, x_andV, x_orV, x_notV, x_ifE, x_eqI, x_neI, x_eqB, x_neB, x_tbm, x_never, x_make, x_meth, x_isII, x_isIC, x_bool1, decide_eq_true_eq, Bool.false_eq_true, if_false, if_true, List.append_nil, List.nil_append, List.cons_append, x_ixT (s _ _ he) (atI_nth zm.1 (by omega))]
    have e2 : (byRank rk ns).getD j 0 = ns.getD z.toNat 0 := by
      unfold byRank
      rw [List.getD_eq_getElem?_getD, List.getElem?_map, hz]
      rfl
    rw [e2] at kk
    exact kk
  have hD' : H1 D = some (.lst ((byRank rk ns).map V.int)) := by
    rw [hD, List.length_map]
    congr 2
    have : rk.length = (byRank rk ns).length := by unfold byRank; rw [List.length_map]
    rw [this]
    exact range_map fun j x hx => by rw [List.getD_eq_getElem?_getD, hx]; rfl
  have hp1 := s _ _ hp
  have lb : (byRank rk ns).length ≤ 3 := by unfold byRank; rw [List.length_map]; exact g.hi
  simp only [x_name, x_set0, x_setS]
  rw [x_seq]
  simp only [x_if, x_test, x_B, x_op, x_un, x_varS, x_var0, x_c, x_I0, x_I, x_U, x_bl, x_ret, x_next, x_eqS, x_neS, x_m0, x_m1, x_isStr, x_SM, x_addT, x_slS, x_lenS, x_strI, x_mulS, x_startT, x_findT, x_preT, x_lstT, x_ascT, x_digT, x_jn, x_js0, x_js1, x_isS, x_fmt, x_fmtS, x_divW, x_truK, x_truS, x_raiseT, x_asg, x_name, x_set0, x_setS, x_drop, x_cb, x_cons, x_nil, x_int1, x_abs1, x_max2, x_gcd, x_gsub, x_sl, x_part, x_nopart, x_int, x_call, x_lst, x_tup, x_not, x_and, x_or, x_andV, x_orV, x_notV, x_ifE, x_eqI, x_neI, x_eqB, x_neB, x_tbm, x_never, x_make, x_meth, x_isII, x_isIC, x_bool1, decide_eq_true_eq, Bool.false_eq_true, if_false, if_true, List.append_nil, List.nil_append, List.cons_append, x_fldv hp1 lk_kind]
  refine ite2 (fun hk => ?_) fun hk => ?_
  · have ek : okey kd rk ns = plc (byRank rk ns) := if_pos hk
    rw [ek] at k
    rw [x_sumL hD']
    show tLc (iList K (tVar 2)) (gName 4) tYes _ [4] [some (.ref p), some (.ref e), some (.ref D), none, none] H1 _
    refine lc_pureL (fun j => V.int (-((byRank rk ns).getD j 0))) (fun Q => by simp only [x_if, x_test, x_B, x_op, x_un, x_varS, x_var0, x_c, x_I0, x_I, x_U, x_bl, x_ret, x_next, x_eqS, x_neS, x_m0, x_m1, x_isStr, x_SM, x_addT, x_slS, x_lenS, x_strI, x_mulS, x_startT, x_findT, x_preT, x_lstT, x_ascT, x_digT, x_jn, x_js0, x_js1, x_isS, x_fmt, x_fmtS, x_divW, x_truK, x_truS, x_raiseT, x_asg, x_name, x_set0, x_setS, x_drop, x_cb, x_cons, x_nil, x_int1, x_abs1, x_max2, x_gcd, x_gsub, x_sl, x_part, x_nopart, x_int, x_call, x_lst, x_tup, x_not, x_and, x_or, x_andV, x_orV, x_notV, x_ifE, x_eqI, x_neI, x_eqB, x_neB, x_tbm, x_never, x_make, x_meth, x_isII, x_isIC, x_bool1, decide_eq_true_eq, Bool.false_eq_true, if_false, if_true, List.append_nil, List.nil_append, List.cons_append]) hD' (by rw [List.length_map]; omega) (fun j x H' QQ hj s2 kk => ?_) fun D2 H2 s2 hD2 => ?_
    · obtain ⟨z, hz, rfl⟩ := int_at hj
      show tUn _ (tVar 4) [some (.ref p), some (.ref e), some (.ref D), none, some (.int z)] H' QQ
      simp only [x_if, x_test, x_B, x_op, x_un, x_varS, x_var0, x_c, x_I0, x_I, x_U, x_bl, x_ret, x_next, x_eqS, x_neS, x_m0, x_m1, x_isStr, x_SM, x_addT, x_slS, x_lenS, x_strI, x_mulS, x_startT, x_findT, x_preT, x_lstT, x_ascT, x_digT, x_jn, x_js0, x_js1, x_isS, x_fmt, x_fmtS, x_divW, x_truK, x_truS, x_raiseT, x_asg, x_name, x_set0, x_setS, x_drop, x_cb, x_cons, x_nil, x_int1, x_abs1, x_max2, x_gcd, x_gsub, x_sl, x_part, x_nopart, x_int, x_call, x_lst, x_tup, x_not, x_and, x_or, x_andV, x_orV, x_notV, x_ifE, x_eqI, x_neI, x_eqB, x_neB, x_tbm, x_never, x_make, x_meth, x_isII, x_isIC, x_bool1, decide_eq_true_eq, Bool.false_eq_true, if_false, if_true, List.append_nil, List.nil_append, List.cons_append]
      have e2 : (byRank rk ns).getD j 0 = z := by rw [List.getD_eq_getElem?_getD, hz]; rfl
      rw [e2] at kk
      exact kk
    · have e2 : (List.range ((byRank rk ns).map V.int).length).map (fun j => V.int (-((byRank rk ns).getD j 0))) = ((byRank rk ns).map (fun x => -x)).map V.int := by
        rw [List.length_map, List.map_map]
        refine range_map fun j x hx => ?_
        rw [List.getD_eq_getElem?_getD, hx]
        rfl
      rw [e2] at hD2
      refine ⟨D2, _, rfl, .inr (SqL.at hD2), ?_, fun q hq => ?_⟩
      · show (V.int (byRank rk ns).sum :: (((byRank rk ns).map (fun x => -x)).map V.int ++ [])).length ≤ sizeLine
        rw [List.append_nil, List.length_cons, List.length_map, List.length_map]
        exact sl5 (by omega)
      · refine k hl q _ ?_ (Same.new' (s.trans s2) hq)
        rw [ExpAt, upd_same, List.append_nil]
        rfl
  · have ek : okey kd rk ns = byRank rk ns := if_neg hk
    rw [ek] at k
    exact ⟨D, _, rfl, .inl ⟨hD', fun q hq => k hl q _ upd_same (Same.new' s hq)⟩⟩
theorem pure_oprec (cl : Cls K C) (vs : List V) (H : Hp) (Q : VK) (E : XK) (h : spOPrec C Z vs H Q E) : t_oprec K C Z BO f_oplace E { nx := fun _ H' => Q .non H', rt := Q } (start ["self", "first", "second"] vs) H := by
  obtain ⟨p, e, f, kd, rk, ns, ms, rfl, ho, g, he, hf, kz, k⟩ := h
  obtain ⟨dx, o, hp, ho'⟩ := id ho
  show t_oprec K C Z BO f_oplace E _ [some (.ref p), some (.ref e), some (.ref f)] H
  unfold t_oprec
  simp only [x_seq, x_if, x_test, x_B, x_op, x_un, x_varS, x_var0, x_c, x_I0, x_I, x_U, x_bl, x_ret, x_next, x_eqS, x_neS, x_m0, x_m1, x_isStr, x_SM, x_addT, x_slS, x_lenS, x_strI, x_mulS, x_startT, x_findT, x_preT, x_lstT, x_ascT, x_digT, x_jn, x_js0, x_js1, x_isS, x_fmt, x_fmtS, x_divW, x_truK, x_truS, x_raiseT, x_asg, x_name, x_set0, x_setS, x_drop, x_cb, x_cons, x_nil, x_int1, x_abs1, x_max2, x_gcd, x_gsub, x_sl, x_part, x_nopart, x_int, x_call, x_lst, x_tup, x_not, x_and, x_or, x_andV, x_orV, x_notV, x_ifE, x_eqI, x_neI, x_eqB, x_neB, x_tbm, x_never, x_make, x_meth, x_isII, x_isIC, x_bool1, decide_eq_true_eq, Bool.false_eq_true, if_false, if_true, List.append_nil, List.nil_append, List.cons_append]
  refine ⟨p, dx, _, rfl, hp, lk_place, p, e, kd, rk, ns, rfl, ho, g, he, fun h => kz (fun z => h z.1) H fun _ _ z => z, fun h1 q1 H1 hq1 s1 => ?_⟩
  refine ⟨p, dx, _, rfl, s1 _ _ hp, lk_place, p, f, kd, rk, ms, rfl, ho.same s1, g, s1 _ _ hf, fun h => kz (fun z => h z.2) H1 s1, fun h2 q2 H2 hq2 s2 => ?_⟩
  exact ⟨q1, q2, _, _, rfl, rfl, s2 _ _ hq1, hq2, k h1 h2 H2 (s1.trans s2)⟩
theorem pure_oeq (vs : List V) (H : Hp) (Q : VK) (E : XK) (h : spOEq C vs H Q E) : t_oeq K C Z BO f_oplace E { nx := fun _ H' => Q .non H', rt := Q } (start ["self", "other"] vs) H := by
  obtain ⟨p, q, kd, kd', rk, rk', rfl, ⟨dx, o, hp, ho⟩, ⟨dx', o', hq, ho'⟩, k⟩ := h
  show t_oeq K C Z BO f_oplace E _ [some (.ref p), some (.ref q)] H
  unfold t_oeq
  simp only [x_seq, x_if, x_test, x_B, x_op, x_un, x_varS, x_var0, x_c, x_I0, x_I, x_U, x_bl, x_ret, x_next, x_eqS, x_neS, x_m0, x_m1, x_isStr, x_SM, x_addT, x_slS, x_lenS, x_strI, x_mulS, x_startT, x_findT, x_preT, x_lstT, x_ascT, x_digT, x_jn, x_js0, x_js1, x_isS, x_fmt, x_fmtS, x_divW, x_truK, x_truS, x_raiseT, x_asg, x_name, x_set0, x_setS, x_drop, x_cb, x_cons, x_nil, x_int1, x_abs1, x_max2, x_gcd, x_gsub, x_sl, x_part, x_nopart, x_int, x_call, x_lst, x_tup, x_not, x_and, x_or, x_andV, x_orV, x_notV, x_ifE, x_eqI, x_neI, x_eqB, x_neB, x_tbm, x_never, x_make, x_meth, x_isII, x_isIC, x_bool1, decide_eq_true_eq, Bool.false_eq_true, if_false, if_true, List.append_nil, List.nil_append, List.cons_append, x_isRC hq, x_fldv hp lk_kind, x_fldv hq lk_kind, x_fldv hp lk_rank, x_fldv hq lk_rank]
  refine ite2 (fun e => ?_) fun e => ?_
  · refine ⟨tupD rk, tupD rk', dp_tup ho, dp_tup ho', plain_tup _, plain_tup _, depth_tup _, ?_⟩
    rw [eqv_tup]
    simpa [e] using k
  · simpa [e] using k
theorem okey_ne {kd : Str} {rk ns : List Int} (h : 1 ≤ rk.length) : okey kd rk ns ≠ [] := by
  unfold okey plc byRank
  split
  · simp
  · intro e
    have := congrArg List.length e
    rw [List.length_map] at this
    simp at this
    rw [this] at h
    simp at h
theorem pure_oarr (vs : List V) (H : Hp) (Q : VK) (E : XK) (h : spOArr C Z vs H Q E) : t_oarr K C Z BO f_oplace E { nx := fun _ H' => Q .non H', rt := Q } (start ["self", "monomials"] vs) H := by
  obtain ⟨p, l, kd, rk, es, nss, rfl, ho, g, hl, hr, hz, kz, k⟩ := h
  obtain ⟨dx, o, hp, ho'⟩ := id ho
  show t_oarr K C Z BO f_oplace E _ [some (.ref p), some (.ref l)] H
  unfold t_oarr tCKw tBound
  simp only [x_seq, x_if, x_test, x_B, x_op, x_un, x_varS, x_var0, x_c, x_I0, x_I, x_U, x_bl, x_ret, x_next, x_eqS, x_neS, x_m0, x_m1, x_isStr, x_SM, x_addT, x_slS, x_lenS, x_strI, x_mulS, x_startT, x_findT, x_preT, x_lstT, x_ascT, x_digT, x_jn, x_js0, x_js1, x_isS, x_fmt, x_fmtS, x_divW, x_truK, x_truS, x_raiseT, x_asg, x_name, x_set0, x_setS, x_drop, x_cb, x_cons, x_nil, x_int1, x_abs1, x_max2, x_gcd, x_gsub, x_sl, x_part, x_nopart, x_int, x_call, x_lst, x_tup, x_not, x_and, x_or, x_andV, x_orV, x_notV, x_ifE, x_eqI, x_neI, x_eqB, x_neB, x_tbm, x_never, x_make, x_meth, x_isII, x_isIC, x_bool1, decide_eq_true_eq, Bool.false_eq_true, if_false, if_true, List.append_nil, List.nil_append, List.cons_append]
  refine ⟨l, es.map V.ref, rfl, hl, fun l2 hl2 => ⟨p, dx, _, rfl, Same.new hl2 _ _ hp, lk_place, fun q hq => ?_⟩⟩
  have sm : Same H (upd (upd H l2 (.lst (es.map V.ref))) q (.met f_oplace p)) := Same.new' (Same.new hl2) hq
  have e2 : (upd (upd H l2 (.lst (es.map V.ref))) q (.met f_oplace p)) l2 = some (.lst (es.map V.ref)) := Same.new hq _ _ upd_same
  have eq : (upd (upd H l2 (.lst (es.map V.ref))) q (.met f_oplace p)) q = some (.met f_oplace p) := upd_same
  generalize (upd (upd H l2 (.lst (es.map V.ref))) q (.met f_oplace p)) = H2 at sm e2 eq ⊢
  refine ⟨l2, q, p, es.map V.ref, nss.map (fun ns => if ns.length = rk.length then okey kd rk ns else [0]), fun i => ∀ ns, nss[i]? = some ns → ns.length = rk.length, rfl, rfl, eq, SqL.at e2, by rw [List.length_map, List.length_map, hr.1], fun kk hk => ?_, fun i x kk H1 hx hk s1 => ?_, fun q' H1 hq' s1 hG => ?_⟩
  · obtain ⟨ns, _, rfl⟩ := List.mem_map.mp hk
    split
    · exact okey_ne g.lo
    · simp
  · obtain ⟨e, he, rfl⟩ := ref_at hx
    rw [List.getElem?_map] at hk
    cases hn : nss[i]? with
    | none => rw [hn] at hk; cases hk
    | some ns =>
      rw [hn] at hk
      cases hk
      have s2 := sm.trans s1
      refine ⟨p, e, kd, rk, ns, rfl, ho.same s2, g, (hr.same s2).2 i e ns he hn, fun hbad => kz ⟨ns, List.mem_of_getElem? hn, hbad⟩ H1 s2, fun hlen q2 H3 hq2 s3 => ⟨fun ns' e' => ?_, s3, q2, rfl, ?_⟩⟩
      · rw [hn] at e'
        cases e'
        exact hlen
      · dsimp only
        rw [if_pos hlen]
        exact hq2
  · have hall : ∀ ns ∈ nss, ns.length = rk.length := fun ns hn => by
      obtain ⟨i, hi⟩ := List.getElem?_of_mem hn
      refine hG i ?_ ns hi
      rw [List.length_map, hr.1]
      exact (List.getElem?_eq_some_iff.mp hi).1
    have ek : nss.map (fun ns => if ns.length = rk.length then okey kd rk ns else [0]) = nss.map (okey kd rk) := List.map_congr_left fun ns hn => if_pos (hall ns hn)
    rw [ek]
    have hq0 : H q' = none := by
      cases e0 : H q' with
      | none => rfl
      | some o =>
        rw [(sm.trans s1) _ _ e0] at hq'
        cases hq'
    exact k hall q' _ hq0 (Same.new' (sm.trans s1) hq') upd_same
end
end SpX

set_option Elab.async false
set_option linter.all false
set_option maxRecDepth 100000
set_option maxHeartbeats 4000000
/-! Law k26: which comes earlier; the insertion. -/
namespace SpX
open PySem PySem.Spec L2 StX RZ
theorem byRank_rng (ns : List Int) : byRank (rng ns.length) ns = ns := by
  unfold byRank rng
  rw [List.map_map]
  conv => rhs; rw [← List.map_id ns]
  exact range_map fun j x hx => by
    show ns.getD (j : Int).toNat 0 = x
    rw [Int.toNat_natCast, List.getD_eq_getElem?_getD, hx]
    rfl
theorem perm_sum {a b : List Int} (p : a.Perm b) : a.sum = b.sum := by
  induction p with
  | nil => rfl
  | cons x _ ih => rw [List.sum_cons, List.sum_cons, ih]
  | swap x y l => simp only [List.sum_cons]; omega
  | trans _ _ h1 h2 => exact h1.trans h2
theorem sum_byRank {kd : Str} {rk ns : List Int} (g : GoodO kd rk) (h : ns.length = rk.length) : (byRank rk ns).sum = ns.sum := by
  have p : (byRank rk ns).Perm (byRank (rng rk.length) ns) := g.perm.map _
  rw [← h, byRank_rng] at p
  exact perm_sum p
def spOEarl : Sp := fun vs H Q _ => ∃ (r e f : Addr) (kd : Str) (rk ns ms : List Int), vs = [.str kd, .ref r, .ref e, .ref f] ∧ GoodO kd rk ∧ H r = some (.lst (rk.map V.int)) ∧ ExpAt H e ns ∧ ExpAt H f ms ∧ ns.length = rk.length ∧ ms.length = rk.length ∧
  Q (.bl (HT.lexLt (okey kd rk ns) (okey kd rk ms))) H
def t_oearl (K : PySem.W.Frag) (C Z BO f_oplace : Addr) (E : XK) : TS :=
    (tSeq (tIfS (tAnd (tTest (tOp rEq (tVar 0) (tC (.str "degree")))) (tTest (tOp rNe (tCB rSumA (tCons (tVar 2) tNil)) (tCB rSumA (tCons (tVar 3) tNil))))) (tRet (tOp (rI0 fun i j => .bl (decide (i < j))) (tCB rSumA (tCons (tVar 2) tNil)) (tCB rSumA (tCons (tVar 3) tNil)))) tNext)
    (tSeq (tFor (iList K (tVar 1)) (gName 4) ((tIfS (tTest (tOp rNe (tOp rIx1 (tVar 2) (tVar 4)) (tOp rIx1 (tVar 3) (tVar 4)))) (tRet (tOp rEq (tOp (rI0 fun i j => .bl (decide (j < i))) (tOp rIx1 (tVar 2) (tVar 4)) (tOp rIx1 (tVar 3) (tVar 4))) (tOp rEq (tVar 0) (tC (.str "degree"))))) tNext)))
    (tRet (tC (.bl false)))))
/-- the loop's own comparison -/
def cmpR (dg : Bool) (ns ms : List Int) : List Int → Bool
  | [] => false
  | z :: r => if ns.getD z.toNat 0 = ms.getD z.toNat 0 then cmpR dg ns ms r else decide (decide (ms.getD z.toNat 0 < ns.getD z.toNat 0) = dg)
theorem cmpR_deg (ns ms : List Int) : ∀ rk : List Int, cmpR true ns ms rk = HT.lexLt ((byRank rk ns).map fun x => -x) ((byRank rk ms).map fun x => -x)
  | [] => rfl
  | z :: r => by
    show (if _ then _ else _) = HT.lexLt (_ :: _) (_ :: _)
    rw [HT.lexLt_cons, cmpR_deg ns ms r]
    by_cases h : ns.getD z.toNat 0 = ms.getD z.toNat 0
    · rw [if_pos h, if_pos (show -(ns.getD z.toNat 0) = -(ms.getD z.toNat 0) by rw [h])]
      rfl
    · rw [if_neg h, if_neg (show ¬ (-(ns.getD z.toNat 0) = -(ms.getD z.toNat 0)) by omega)]
      simp
theorem cmpR_var (ns ms : List Int) : ∀ rk : List Int, cmpR false ns ms rk = HT.lexLt (byRank rk ns) (byRank rk ms)
  | [] => rfl
  | z :: r => by
    show (if _ then _ else _) = HT.lexLt (_ :: _) (_ :: _)
    rw [HT.lexLt_cons, cmpR_var ns ms r]
    by_cases h : ns.getD z.toNat 0 = ms.getD z.toNat 0
    · rw [if_pos h, if_pos h]
      rfl
    · rw [if_neg h, if_neg (show ¬ (ns.getD z.toNat 0 = ms.getD z.toNat 0) from h)]
      show _ = decide (ns.getD z.toNat 0 < ms.getD z.toNat 0)
      generalize ns.getD z.toNat 0 = a at h ⊢
      generalize ms.getD z.toNat 0 = b at h ⊢
      by_cases q : b < a
      · simp [q]
        omega
      · simp [q]
        omega
theorem cmpR_cons {dg : Bool} {ns ms : List Int} {z : Int} {r : List Int} : cmpR dg ns ms (z :: r) = if ns.getD z.toNat 0 = ms.getD z.toNat 0 then cmpR dg ns ms r else decide (decide (ms.getD z.toNat 0 < ns.getD z.toNat 0) = dg) := rfl
section
variable {K : PySem.W.Frag} {C Z BO f_oplace : Addr}
theorem pure_oearl (vs : List V) (H : Hp) (Q : VK) (E : XK) (h : spOEarl vs H Q E) : t_oearl K C Z BO f_oplace E { nx := fun _ H' => Q .non H', rt := Q } (start ["kind", "ranking", "one", "two", "index"] vs) H := by
  obtain ⟨r, e, f, kd, rk, ns, ms, rfl, g, hr, he, hf, hn, hm, k⟩ := h
  show t_oearl K C Z BO f_oplace E _ [some (.str kd), some (.ref r), some (.ref e), some (.ref f), none] H
  have sn := sum_byRank g hn
  have sm := sum_byRank g hm
  have key : HT.lexLt (okey kd rk ns) (okey kd rk ms) = if kd = ("degree" : Str) ∧ ns.sum ≠ ms.sum then decide (ns.sum < ms.sum) else cmpR (decide (kd = ("degree" : Str))) ns ms rk := by
    unfold okey
    by_cases hk : kd = ("degree" : Str)
    · rw [if_pos hk, if_pos hk, decide_eq_true hk]
      unfold plc
      rw [HT.lexLt_cons, sn, sm, cmpR_deg]
      by_cases hs : ns.sum = ms.sum
      · rw [if_pos hs, if_neg (by simp [hs])]
      · rw [if_neg hs, if_pos ⟨hk, hs⟩]
    · rw [if_neg hk, if_neg hk, if_neg (by simp [hk]), decide_eq_false hk, cmpR_var]
  rw [key] at k
  unfold t_oearl
  rw [x_seq]
  simp only [x_if, x_test, x_B, x_op, x_un, x_varS, x_var0, x_c, x_I0, x_I, x_U, x_bl, x_ret, x_next, x_eqS, x_neS, x_m0, x_m1, x_isStr, x_SM, x_addT, x_slS, x_lenS, x_strI, x_mulS, x_startT, x_findT, x_preT, x_lstT, x_ascT, x_digT, x_jn, x_js0, x_js1, x_isS, x_fmt, x_fmtS, x_divW, x_truK, x_truS, x_raiseT, x_asg, x_name, x_set0, x_setS, x_drop, x_cb, x_cons, x_nil, x_int1, x_abs1, x_max2, x_gcd, x_gsub, x_sl, x_part, x_nopart, x_int, x_call, x_lst, x_tup, x_not, x_and, x_or, x_andV, x_orV, x_notV, x_ifE, x_eqI, x_neI, x_eqB, x_neB, x_tbm, x_never, x_make, x_meth, x_isII, x_isIC, x_bool1, decide_eq_true_eq, Bool.false_eq_true, if_false, if_true, List.append_nil, List.nil_append, List.cons_append, x_sumT he, x_sumT hf]
  have loop : ¬ (kd = ("degree" : Str) ∧ ns.sum ≠ ms.sum) → tSeq (tFor (iList K (tVar 1)) (gName 4) ((tIfS (tTest (tOp rNe (tOp rIx1 (tVar 2) (tVar 4)) (tOp rIx1 (tVar 3) (tVar 4)))) (tRet (tOp rEq (tOp (rI0 fun i j => .bl (decide (j < i))) (tOp rIx1 (tVar 2) (tVar 4)) (tOp rIx1 (tVar 3) (tVar 4))) (tOp rEq (tVar 0) (tC (.str "degree"))))) tNext)))
    (tRet (tC (.bl false))) { nx := fun _ H' => Q .non H', rt := Q } [some (.str kd), some (.ref r), some (.ref e), some (.ref f), none] H := by
    intro hno
    rw [if_neg hno] at k
    rw [x_seq]
    refine for_lstE (a := r) (xs := rk.map V.int) (fun Q => by simp only [x_if, x_test, x_B, x_op, x_un, x_varS, x_var0, x_c, x_I0, x_I, x_U, x_bl, x_ret, x_next, x_eqS, x_neS, x_m0, x_m1, x_isStr, x_SM, x_addT, x_slS, x_lenS, x_strI, x_mulS, x_startT, x_findT, x_preT, x_lstT, x_ascT, x_digT, x_jn, x_js0, x_js1, x_isS, x_fmt, x_fmtS, x_divW, x_truK, x_truS, x_raiseT, x_asg, x_name, x_set0, x_setS, x_drop, x_cb, x_cons, x_nil, x_int1, x_abs1, x_max2, x_gcd, x_gsub, x_sl, x_part, x_nopart, x_int, x_call, x_lst, x_tup, x_not, x_and, x_or, x_andV, x_orV, x_notV, x_ifE, x_eqI, x_neI, x_eqB, x_neB, x_tbm, x_never, x_make, x_meth, x_isII, x_isIC, x_bool1, decide_eq_true_eq, Bool.false_eq_true, if_false, if_true, List.append_nil, List.nil_append, List.cons_append]) (fun i σ H' => H' = H ∧ (∃ w, σ = [some (.str kd), some (.ref r), some (.ref e), some (.ref f), w]) ∧ cmpR (decide (kd = ("degree" : Str))) ns ms rk = cmpR (decide (kd = ("degree" : Str))) ns ms (rk.drop i)) ⟨rfl, ⟨_, rfl⟩, rfl⟩ (fun i σ H' _ h => by rw [h.1]; exact hr) ?_ ?_
    · rintro i x σ H' hx ⟨rfl, ⟨w, rfl⟩, hc⟩
      obtain ⟨z, hz, rfl⟩ := int_at hx
      have zm := g.mem (List.mem_of_getElem? hz)
      have hd : rk.drop i = z :: rk.drop (i + 1) := by
        obtain ⟨hi, e1⟩ := List.getElem?_eq_some_iff.mp hz
        rw [List.drop_eq_getElem_cons hi, e1]
      rw [hd] at hc
      simp only [x_if, x_test, x_B, x_op, x_un, x_varS, x_var0, x_c, x_I0, x_I, x_U, x_bl, x_ret, x_next, x_eqS, x_neS, x_m0, x_m1, x_isStr, x_SM, x_addT, x_slS, x_lenS, x_strI, x_mulS, x_startT, x_findT, x_preT, x_lstT, x_ascT, x_digT, x_jn, x_js0, x_js1, x_isS, x_fmt, x_fmtS, x_divW, x_truK, x_truS, x_raiseT, x_asg, x_name, x_set0, x_setS, x_drop, x_cb, x_cons, x_nil, x_int1, x_abs1, x_max2, x_gcd, x_gsub, x_sl, x_part, x_nopart, x_int, x_call, x_lst, x_tup, x_not, x_and, x_or, x_andV, x_orV, x_notV, x_ifE, x_eqI, x_neI, x_eqB, x_neB, x_tbm, x_never, x_make, x_meth, x_isII, x_isIC, x_bool1, decide_eq_true_eq, Bool.false_eq_true, if_false, if_true, List.append_nil, List.nil_append, List.cons_append, x_ixT he (atI_nth zm.1 (by omega)), x_ixT hf (atI_nth zm.1 (by omega))]
      rw [cmpR_cons] at hc
      refine ite2 (fun hne => ?_) fun heq => ?_
      · rw [if_neg (by simpa using hne)] at hc
        rw [hc] at k
        exact k
      · rw [if_pos (by simpa using heq)] at hc
        exact ⟨trivial, ⟨_, rfl⟩, hc⟩
    · rintro σ H' ⟨rfl, ⟨w, rfl⟩, hc⟩
      rw [List.length_map, List.drop_length] at hc
      rw [hc] at k
      exact k
  refine ite2 (fun hk => ite2 (fun hs => ?_) fun hs => ?_) fun hk => ?_
  · rw [if_pos ⟨by simpa using hk, by simpa using hs⟩] at k
    exact k
  · exact loop fun z => hs (by simpa using z.2)
  · exact loop fun z => hk (by simpa using z.1)
end
end SpX

set_option Elab.async false
set_option linter.all false
set_option maxRecDepth 100000
set_option maxHeartbeats 4000000
/-! Law k26: the list put in order one by one. -/
namespace SpX
open PySem PySem.Spec L2 StX RZ
theorem cutV_to (xs : List V) {c : Nat} (h : c ≤ xs.length) : cutV xs none (some (c : Int)) = xs.take c := by
  unfold cutV
  rw [HT.sIx_none, HT.sIx_nat, Nat.min_eq_left h, List.drop_zero, Nat.sub_zero]
theorem cutV_from (xs : List V) {c : Nat} (h : c ≤ xs.length) : cutV xs (some (c : Int)) none = xs.drop c := by
  unfold cutV
  rw [HT.sIx_none, HT.sIx_nat, Nat.min_eq_left h]
  exact List.take_of_length_le (by rw [List.length_drop]; omega)
theorem lex_lt : ∀ a b : List Int, HT.lexLt a b = decide (a < b)
  | [], [] => by simp [HT.lexLt_nil_nil]
  | [], _ :: _ => by simp [HT.lexLt_nil_cons]
  | _ :: _, [] => by simp [HT.lexLt_cons_nil]
  | x :: r, y :: t => by
    rw [HT.lexLt_cons, lex_lt r t]
    by_cases h : x = y
    · rw [if_pos h]
      simp [h, List.cons_lt_cons_iff]
    · rw [if_neg h]
      simp [h, List.cons_lt_cons_iff]
theorem okey_inj {kd : Str} {rk ns ms : List Int} (g : GoodO kd rk) (hn : ns.length = rk.length) (hm : ms.length = rk.length) (e : okey kd rk ns = okey kd rk ms) : ns = ms := by
  have e' : byRank rk ns = byRank rk ms := by
    unfold okey plc at e
    split at e
    · have := (List.cons.inj e).2
      have := congrArg (List.map fun x : Int => -x) this
      have id2 : ∀ l : List Int, (l.map fun x => -x).map (fun x : Int => -x) = l := fun l => by
        rw [List.map_map]
        conv => rhs; rw [← List.map_id l]
        exact List.map_congr_left fun x _ => by show - -x = x; omega
      rwa [id2, id2] at this
    · exact e
  refine List.ext_getElem? fun i => ?_
  by_cases hi : i < rk.length
  · have hz : (i : Int) ∈ rk := g.perm.mem_iff.mpr (List.mem_map.mpr ⟨i, List.mem_range.mpr hi, rfl⟩)
    obtain ⟨j, hj⟩ := List.getElem?_of_mem hz
    have q := congrArg (fun l => l[j]?) e'
    unfold byRank at q
    simp only [List.getElem?_map, hj, Option.map_some, Int.toNat_natCast, Option.some.injEq] at q
    rw [List.getD_eq_getElem?_getD, List.getD_eq_getElem?_getD, List.getElem?_eq_getElem (by omega), List.getElem?_eq_getElem (by omega)] at q
    rw [List.getElem?_eq_getElem (by omega), List.getElem?_eq_getElem (by omega)]
    exact congrArg some q
  · rw [List.getElem?_eq_none (by omega), List.getElem?_eq_none (by omega)]
/-- in order by key -/
def Asc (kd : Str) (rk : List Int) (nss : List (List Int)) : Prop := nss.Pairwise fun a b => okey kd rk a ≤ okey kd rk b
def early (kd : Str) (rk p a : List Int) : Bool := HT.lexLt (okey kd rk a) (okey kd rk p)
def ins1 (kd : Str) (rk p : List Int) (nss : List (List Int)) : List (List Int) := nss.take (nss.filter (early kd rk p)).length ++ p :: nss.drop (nss.filter (early kd rk p)).length
theorem ins1_perm (kd : Str) (rk p : List Int) (nss : List (List Int)) : (ins1 kd rk p nss).Perm (p :: nss) := by
  unfold ins1
  refine List.perm_middle.trans (.cons _ ?_)
  rw [List.take_append_drop]
theorem ins1_cut {kd : Str} {rk p : List Int} : ∀ {nss : List (List Int)}, Asc kd rk nss → (∀ a ∈ nss.take (nss.filter (early kd rk p)).length, okey kd rk a ≤ okey kd rk p) ∧ ∀ a ∈ nss.drop (nss.filter (early kd rk p)).length, okey kd rk p ≤ okey kd rk a
  | [], _ => ⟨fun a h => by simp at h, fun a h => by simp at h⟩
  | x :: r, h => by
    obtain ⟨h1, h2⟩ := List.pairwise_cons.mp h
    by_cases hx : early kd rk p x = true
    · rw [List.filter_cons_of_pos hx, List.length_cons, List.take_succ_cons, List.drop_succ_cons]
      obtain ⟨i1, i2⟩ := ins1_cut (p := p) h2
      refine ⟨fun a ha => ?_, i2⟩
      rcases List.mem_cons.mp ha with rfl | ha
      · unfold early at hx
        rw [lex_lt] at hx
        exact List.le_of_lt (of_decide_eq_true hx)
      · exact i1 a ha
    · have hx' : okey kd rk p ≤ okey kd rk x := by
        unfold early at hx
        rw [lex_lt] at hx
        exact List.not_lt.mp fun z => hx (decide_eq_true z)
      have e0 : r.filter (early kd rk p) = [] := List.filter_eq_nil_iff.mpr fun y hy => by
        unfold early
        rw [lex_lt]
        intro z
        exact List.not_lt.mpr (List.le_trans hx' (h1 y hy)) (of_decide_eq_true z)
      rw [List.filter_cons_of_neg hx, e0]
      refine ⟨fun a ha => by simp at ha, fun a ha => ?_⟩
      rcases List.mem_cons.mp (by simpa using ha) with rfl | ha
      · exact hx'
      · exact List.le_trans hx' (h1 a ha)
theorem ins1_asc {kd : Str} {rk p : List Int} {nss : List (List Int)} (h : Asc kd rk nss) : Asc kd rk (ins1 kd rk p nss) := by
  obtain ⟨h1, h2⟩ := ins1_cut (p := p) h
  unfold Asc ins1
  refine List.pairwise_append.mpr ⟨h.sublist (List.take_sublist _ _), List.pairwise_cons.mpr ⟨h2, h.sublist (List.drop_sublist _ _)⟩, fun a ha b hb => ?_⟩
  rcases List.mem_cons.mp hb with rfl | hb
  · exact h1 a ha
  · exact List.le_trans (h1 a ha) (h2 b hb)
theorem asc_unique {kd : Str} {rk : List Int} {a b : List (List Int)} (g : GoodO kd rk) (hl : ∀ x ∈ a, x.length = rk.length) (p : a.Perm b) (ha : Asc kd rk a) (hb : Asc kd rk b) : a = b :=
  List.Perm.eq_of_pairwise (fun x y hx hy h1 h2 => okey_inj g (hl x hx) (hl y (p.mem_iff.mpr hy)) (List.le_antisymm h1 h2)) ha hb p
end SpX

set_option Elab.async false
set_option linter.all false
set_option maxRecDepth 100000
set_option maxHeartbeats 4000000
/-! Law k26: the list that the law puts in order itself. -/
namespace SpX
open PySem PySem.Spec L2 StX RZ
theorem lc_filt {K : PySem.W.Frag} {tv : TE} {tt : TT} {σ : L2.St} {H : Hp} {Q : VK} {p : Addr} {xs : List V} {i : Nat} (f : Nat → Bool) (hi : i < σ.length) (hv : ∀ Q : VK, tv σ H Q = Q (.ref p) H) (h : H p = some (.lst xs)) (hl : xs.length < 1000)
    (ht : ∀ j x (H' : Hp) (R : Bool → Hp → Prop), xs[j]? = some x → Same H H' → R (f j) H' → tt ((wipe σ [i]).set i (some x)) H' R) (k : ∀ D H' acc, Same H H' → H' D = some (.lst acc) → acc.length = ((List.range xs.length).filter f).length → Q (.ref D) H') :
    tLc (iList K tv) (gName i) tt (tVar i) [i] σ H Q := by
  show tv σ H _
  rw [hv]
  refine ⟨p, rfl, ⟨_, SqL.at h⟩, fun D hD => lc_list (K := K) (a := p) (xs := xs) (fun j H' => Same H H' ∧ ∃ acc, H' D = some (.lst acc) ∧ acc.length = ((List.range j).filter f).length) ⟨Same.new hD, [], upd_same, rfl⟩ (fun j H' _ s => SqL.at (s.1 _ _ h)) (fun j x H' hj s => ⟨wipe1, ?_⟩) fun H' s => ?_⟩
  · obtain ⟨s1, acc, e, la⟩ := s
    refine ht j x H' _ hj s1 ?_
    have hj' := (List.getElem?_eq_some_iff.mp hj).1
    have le : ((List.range j).filter f).length ≤ j := Nat.le_trans (List.length_filter_le _ _) (by rw [List.length_range]; omega)
    have hr : (List.range (j + 1)).filter f = (List.range j).filter f ++ (if f j = true then [j] else []) := by
      rw [List.range_succ, List.filter_append]
      congr 1
      by_cases hf : f j = true <;> simp [hf]
    cases hf : f j with
    | true =>
      rw [if_pos rfl]
      refine ⟨x, ?_, acc, e, Nat.lt_of_lt_of_le (show acc.length < 1000 by omega) (by decide), fun b o eb => ?_, acc ++ [x], upd_same, ?_⟩
      · show ((σ.set i none).set i (some x))[i]? = _
        rw [List.set_set, List.getElem?_set_self hi]
      · rw [upd_ne (ne_of_none eb hD)]
        exact s1 _ _ eb
      · rw [hr, hf, if_pos rfl, List.length_append, List.length_append, la]
        rfl
    | false =>
      rw [if_neg (by decide)]
      refine ⟨s1, acc, e, ?_⟩
      rw [hr, hf, if_neg (by decide), List.append_nil, la]
  · obtain ⟨s1, acc, e, la⟩ := s
    exact k D H' acc s1 e la
theorem filt_len {α : Type} (l : List α) (d : α) (g : α → Bool) : ((List.range l.length).filter fun j => g (l.getD j d)).length = (l.filter g).length := by
  have e : l = (List.range l.length).map fun j => l.getD j d := by
    conv => lhs; rw [← List.map_id l]
    exact (range_map fun j x hx => by rw [List.getD_eq_getElem?_getD, hx]; rfl).symm
  conv => rhs; rw [e, List.filter_map, List.length_map]
  rfl
def spOAsc : Sp := fun vs H Q _ => ∃ (r l : Addr) (kd : Str) (rk : List Int) (es : List Addr) (nss : List (List Int)), vs = [.str kd, .ref r, .ref l] ∧ GoodO kd rk ∧ H r = some (.lst (rk.map V.int)) ∧ H l = some (.lst (es.map V.ref)) ∧ RowsAt H es nss ∧ (∀ ns ∈ nss, ns.length = rk.length) ∧ es.length ≤ 100 ∧
  ∀ D H' es' nss', Same H H' → H' D = some (.lst (es'.map V.ref)) → RowsAt H' es' nss' → nss'.Perm nss → Asc kd rk nss' → Q (.ref D) H'
def t_oasc (K : PySem.W.Frag) (C Z BO f_oplace : Addr) (E : XK) : TS :=
    (tSeq (tAsg (tLst tNil) (gName 3))
    (tSeq (tFor (iList K (tVar 2)) (gName 4) ((tSeq (tAsg (tCB rLenA (tCons (tLc (iList K (tVar 3)) (gName 6) (tB (tCall spOEarl [] E0 (tCons (tVar 0) (tCons (tVar 1) (tCons (tVar 6) (tCons (tVar 4) tNil)))))) (tVar 6) [6]) tNil)) (gName 5))
    (tAsg (tOp rCat (tOp rCat (tSl rSlA (tVar 3) tNoPart (tPart (tVar 5))) (tLst (tCons (tVar 4) tNil))) (tSl rSlA (tVar 3) (tPart (tVar 5)) tNoPart)) (gName 3)))))
    (tRet (tVar 3))))
theorem rows_ins {H : Hp} {es : List Addr} {nss : List (List Int)} {e : Addr} {ns : List Int} {c : Nat} (h : RowsAt H es nss) (he : ExpAt H e ns) (hc : c ≤ nss.length) : RowsAt H (es.take c ++ e :: es.drop c) (nss.take c ++ ns :: nss.drop c) := by
  have l := h.1
  refine ⟨by simp; omega, fun i q ms hq hm => ?_⟩
  rcases Nat.lt_trichotomy i c with hi | hi | hi
  · rw [List.getElem?_append_left (by rw [List.length_take]; omega), List.getElem?_take_of_lt hi] at hq hm
    exact h.2 i q ms hq hm
  · subst hi
    rw [List.getElem?_append_right (by rw [List.length_take]; omega), List.length_take, Nat.min_eq_left (by omega), Nat.sub_self] at hq hm
    simp at hq hm
    subst hq hm
    exact he
  · obtain ⟨k, rfl⟩ : ∃ k, i = c + 1 + k := ⟨i - (c + 1), by omega⟩
    rw [List.getElem?_append_right (by rw [List.length_take]; omega), List.length_take, Nat.min_eq_left (by omega), show c + 1 + k - c = k + 1 by omega, List.getElem?_cons_succ, List.getElem?_drop] at hq hm
    exact h.2 _ q ms hq hm
section
variable {K : PySem.W.Frag} {C Z BO f_oplace : Addr}
theorem pure_oasc (vs : List V) (H : Hp) (Q : VK) (E : XK) (h : spOAsc vs H Q E) : t_oasc K C Z BO f_oplace E { nx := fun _ H' => Q .non H', rt := Q } (start ["kind", "ranking", "places", "found", "place", "at", "other"] vs) H := by
  obtain ⟨r, l, kd, rk, es, nss, rfl, g, hr, hl, hrow, hlen, hz, k⟩ := h
  show t_oasc K C Z BO f_oplace E _ [some (.str kd), some (.ref r), some (.ref l), none, none, none, none] H
  have lrow := hrow.1
  unfold t_oasc
  rw [x_seq]
  simp only [x_if, x_test, x_B, x_op, x_un, x_varS, x_var0, x_c, x_I0, x_I, x_U, x_bl, x_ret, x_next, x_eqS, x_neS, x_m0, x_m1, x_isStr, x_SM, x_addT, x_slS, x_lenS, x_strI, x_mulS, x_startT, x_findT, x_preT, x_lstT, x_ascT, x_digT, x_jn, x_js0, x_js1, x_isS, x_fmt, x_fmtS, x_divW, x_truK, x_truS, x_raiseT, x_asg, x_name, x_set0, x_setS, x_drop, x_cb, x_cons, x_nil, x_int1, x_abs1, x_max2, x_gcd, x_gsub, x_sl, x_part, x_nopart, x_int, x_call, x_lst, x_tup, x_not, x_and, x_or, x_andV, x_orV, x_notV, x_ifE, x_eqI, x_neI, x_eqB, x_neB, x_tbm, x_never, x_make, x_meth, x_isII, x_isIC, x_bool1, decide_eq_true_eq, Bool.false_eq_true, if_false, if_true, List.append_nil, List.nil_append, List.cons_append]
  refine ⟨by decide, fun D0 hD0 => ?_⟩
  try dsimp only
  rw [x_seq]
  refine for_lstE (a := l) (xs := es.map V.ref) (fun Q => by simp only [x_if, x_test, x_B, x_op, x_un, x_varS, x_var0, x_c, x_I0, x_I, x_U, x_bl, x_ret, x_next, x_eqS, x_neS, x_m0, x_m1, x_isStr, x_SM, x_addT, x_slS, x_lenS, x_strI, x_mulS, x_startT, x_findT, x_preT, x_lstT, x_ascT, x_digT, x_jn, x_js0, x_js1, x_isS, x_fmt, x_fmtS, x_divW, x_truK, x_truS, x_raiseT, x_asg, x_name, x_set0, x_setS, x_drop, x_cb, x_cons, x_nil, x_int1, x_abs1, x_max2, x_gcd, x_gsub, x_sl, x_part, x_nopart, x_int, x_call, x_lst, x_tup, x_not, x_and, x_or, x_andV, x_orV, x_notV, x_ifE, x_eqI, x_neI, x_eqB, x_neB, x_tbm, x_never, x_make, x_meth, x_isII, x_isIC, x_bool1, decide_eq_true_eq, Bool.false_eq_true, if_false, if_true, List.append_nil, List.nil_append, List.cons_append]) (fun i σ H' => Same H H' ∧ ∃ (D : Addr) (es' : List Addr) (nss' : List (List Int)) (w4 w5 : Option V), σ = [some (.str kd), some (.ref r), some (.ref l), some (.ref D), w4, w5, none] ∧ H' D = some (.lst (es'.map V.ref)) ∧ RowsAt H' es' nss' ∧ nss'.Perm (nss.take i) ∧ Asc kd rk nss')
    ⟨Same.new hD0, D0, [], [], none, none, rfl, upd_same, ⟨rfl, fun i q ns h => by simp at h⟩, .nil, .nil⟩ (fun i σ H' _ h => h.1 _ _ hl) ?_ ?_
  · rintro i x σ H' hx ⟨s, D, es', nss', w4, w5, rfl, hD, hrow', hp, ha⟩
    obtain ⟨e, he, rfl⟩ := ref_at hx
    have hil : i < nss.length := by have := (List.getElem?_eq_some_iff.mp he).1; omega
    have hns : nss[i]? = some nss[i] := List.getElem?_eq_getElem hil
    generalize nss[i] = ns at hns
    have hne := (hrow.same s).2 i e ns he hns
    have ln := hlen ns (List.mem_of_getElem? hns)
    have lr' := hrow'.1
    have lp : nss'.length = i := by rw [hp.length_eq, List.length_take]; omega
    have hle : ∀ ms ∈ nss', ms.length = rk.length := fun ms hm => hlen ms (List.mem_of_mem_take (hp.mem_iff.mp hm))
    simp only [x_name, x_setS, x_set0]
    rw [x_seq]
    simp only [x_if, x_test, x_B, x_op, x_un, x_varS, x_var0, x_c, x_I0, x_I, x_U, x_bl, x_ret, x_next, x_eqS, x_neS, x_m0, x_m1, x_isStr, x_SM, x_addT, x_slS, x_lenS, x_strI, x_mulS, x_startT, x_findT, x_preT, x_lstT, x_ascT, x_digT, x_jn, x_js0, x_js1, x_isS, x_fmt, x_fmtS, x_divW, x_truK, x_truS, x_raiseT, x_asg, x_name, x_set0, x_setS, x_drop, x_cb, x_cons, x_nil, x_int1, x_abs1, x_max2, x_gcd, x_gsub, x_sl, x_part, x_nopart, x_int, x_call, x_lst, x_tup, x_not, x_and, x_or, x_andV, x_orV, x_notV, x_ifE, x_eqI, x_neI, x_eqB, x_neB, x_tbm, x_never, x_make, x_meth, x_isII, x_isIC, x_bool1, decide_eq_true_eq, Bool.false_eq_true, if_false, if_true, List.append_nil, List.nil_append, List.cons_append]
    refine lc_filt (fun j => early kd rk ns (nss'.getD j [])) (by show 6 < 7; decide) (fun Q => by simp only [x_if, x_test, x_B, x_op, x_un, x_varS, x_var0, x_c, x_I0, x_I, x_U, x_bl, x_ret, x_next, x_eqS, x_neS, x_m0, x_m1, x_isStr, x_SM, x_addT, x_slS, x_lenS, x_strI, x_mulS, x_startT, x_findT, x_preT, x_lstT, x_ascT, x_digT, x_jn, x_js0, x_js1, x_isS, x_fmt, x_fmtS, x_divW, x_truK, x_truS, x_raiseT, x_asg, x_name, x_set0, x_setS, x_drop, x_cb, x_cons, x_nil, x_int1, x_abs1, x_max2, x_gcd, x_gsub, x_sl, x_part, x_nopart, x_int, x_call, x_lst, x_tup, x_not, x_and, x_or, x_andV, x_orV, x_notV, x_ifE, x_eqI, x_neI, x_eqB, x_neB, x_tbm, x_never, x_make, x_meth, x_isII, x_isIC, x_bool1, decide_eq_true_eq, Bool.false_eq_true, if_false, if_true, List.append_nil, List.nil_append, List.cons_append]) hD (by rw [List.length_map]; omega) (fun j x H1 R hj s1 kk => ?_) fun D2 H2 acc s2 hD2 la => ?_
    · obtain ⟨f, hf, rfl⟩ := ref_at hj
      have hjl : j < nss'.length := by have := (List.getElem?_eq_some_iff.mp hf).1; omega
      have hms : nss'[j]? = some nss'[j] := List.getElem?_eq_getElem hjl
      generalize nss'[j] = ms at hms
      show tB (tCall spOEarl [] E0 (tCons (tVar 0) (tCons (tVar 1) (tCons (tVar 6) (tCons (tVar 4) tNil))))) [some (.str kd), some (.ref r), some (.ref l), some (.ref D), some (.ref e), w5, some (.ref f)] H1 R
      simp only [x_if, x_test, x_B, x_op, x_un, x_varS, x_var0, x_c, x_I0, x_I, x_U, x_bl, x_ret, x_next, x_eqS, x_neS, x_m0, x_m1, x_isStr, x_SM, x_addT, x_slS, x_lenS, x_strI, x_mulS, x_startT, x_findT, x_preT, x_lstT, x_ascT, x_digT, x_jn, x_js0, x_js1, x_isS, x_fmt, x_fmtS, x_divW, x_truK, x_truS, x_raiseT, x_asg, x_name, x_set0, x_setS, x_drop, x_cb, x_cons, x_nil, x_int1, x_abs1, x_max2, x_gcd, x_gsub, x_sl, x_part, x_nopart, x_int, x_call, x_lst, x_tup, x_not, x_and, x_or, x_andV, x_orV, x_notV, x_ifE, x_eqI, x_neI, x_eqB, x_neB, x_tbm, x_never, x_make, x_meth, x_isII, x_isIC, x_bool1, decide_eq_true_eq, Bool.false_eq_true, if_false, if_true, List.append_nil, List.nil_append, List.cons_append]
      refine ⟨r, f, e, kd, rk, ms, ns, rfl, g, s1 _ _ (s _ _ hr), (hrow'.same s1).2 j f ms hf hms, s1 _ _ hne, hle ms (List.mem_of_getElem? hms), ln, _, rfl, ?_⟩
      have e2 : nss'.getD j [] = ms := by rw [List.getD_eq_getElem?_getD, hms]; rfl
      rw [e2] at kk
      exact kk
    · have ec : acc.length = (nss'.filter (early kd rk ns)).length := by
        rw [la, List.length_map, lr']
        exact filt_len nss' [] _
      have hcl : (nss'.filter (early kd rk ns)).length ≤ nss'.length := List.length_filter_le _ _
      simp only [x_lenA hD2, ec]
      generalize hc : (nss'.filter (early kd rk ns)).length = c at hcl
      have hD' := s2 _ _ hD
      refine ⟨c, rfl, D, es'.map V.ref, rfl, hD', fun q1 hq1 => ?_⟩
      rw [cutV_to _ (by rw [List.length_map]; omega)]
      refine ⟨by show 1 ≤ sizeLine; decide, fun q2 hq2 => ?_⟩
      have t1 : Same H2 (upd (upd H2 q1 (.lst ((es'.map V.ref).take c))) q2 (.lst [.ref e])) := Same.new' (Same.new hq1) hq2
      have u1 : (upd (upd H2 q1 (.lst ((es'.map V.ref).take c))) q2 (.lst [.ref e])) q1 = some (.lst ((es'.map V.ref).take c)) := Same.new hq2 _ _ upd_same
      have u2 : (upd (upd H2 q1 (.lst ((es'.map V.ref).take c))) q2 (.lst [.ref e])) q2 = some (.lst [.ref e]) := upd_same
      generalize (upd (upd H2 q1 (.lst ((es'.map V.ref).take c))) q2 (.lst [.ref e])) = H3 at t1 u1 u2 ⊢
      have big : ∀ n : Nat, n ≤ 1000 → n ≤ sizeLine := fun n hn => Nat.le_trans hn (by decide)
      try dsimp only
      rw [x_cat u1 u2 (by rw [List.length_take, List.length_map]; exact big _ (by show min c es'.length + 1 ≤ 1000; omega))]
      intro q3 hq3
      refine ⟨c, rfl, D, es'.map V.ref, rfl, Same.new hq3 _ _ (t1 _ _ hD'), fun q4 hq4 => ?_⟩
      rw [cutV_from _ (by rw [List.length_map]; omega)]
      have t2 : Same H3 (upd (upd H3 q3 (.lst ((es'.map V.ref).take c ++ [.ref e]))) q4 (.lst ((es'.map V.ref).drop c))) := Same.new' (Same.new hq3) hq4
      have u3 : (upd (upd H3 q3 (.lst ((es'.map V.ref).take c ++ [.ref e]))) q4 (.lst ((es'.map V.ref).drop c))) q3 = some (.lst ((es'.map V.ref).take c ++ [.ref e])) := Same.new hq4 _ _ upd_same
      have u4 : (upd (upd H3 q3 (.lst ((es'.map V.ref).take c ++ [.ref e]))) q4 (.lst ((es'.map V.ref).drop c))) q4 = some (.lst ((es'.map V.ref).drop c)) := upd_same
      generalize (upd (upd H3 q3 (.lst ((es'.map V.ref).take c ++ [.ref e]))) q4 (.lst ((es'.map V.ref).drop c))) = H4 at t2 u3 u4 ⊢
      try dsimp only
      rw [x_cat u3 u4 (by rw [List.length_append, List.length_take, List.length_drop, List.length_map]; exact big _ (by show min c es'.length + 1 + (es'.length - c) ≤ 1000; omega))]
      intro q5 hq5
      have sA : Same H (upd H4 q5 (.lst ((es'.map V.ref).take c ++ [.ref e] ++ (es'.map V.ref).drop c))) := Same.new' (((s.trans s2).trans t1).trans t2) hq5
      have sB : Same H' (upd H4 q5 (.lst ((es'.map V.ref).take c ++ [.ref e] ++ (es'.map V.ref).drop c))) := Same.new' ((s2.trans t1).trans t2) hq5
      have em : (es'.map V.ref).take c ++ [V.ref e] ++ (es'.map V.ref).drop c = (es'.take c ++ e :: es'.drop c).map V.ref := by
        rw [List.map_append, List.map_cons, List.map_take, List.map_drop, List.append_assoc]
        rfl
      refine ⟨sA, q5, es'.take c ++ e :: es'.drop c, nss'.take c ++ ns :: nss'.drop c, _, _, rfl, by rw [upd_same, em], rows_ins (hrow'.same sB) (sB _ _ hne) hcl, ?_, ?_⟩
      · rw [← hc]
        refine (ins1_perm kd rk ns nss').trans ?_
        rw [List.take_add_one, hns]
        exact (List.Perm.cons ns hp).trans (List.perm_append_comm (l₁ := [ns]) (l₂ := nss.take i))
      · rw [← hc]
        exact ins1_asc ha
  · rintro σ H' ⟨s, D, es', nss', w4, w5, rfl, hD, hrow', hp, ha⟩
    rw [List.length_map, lrow, List.take_length] at hp
    simp only [x_if, x_test, x_B, x_op, x_un, x_varS, x_var0, x_c, x_I0, x_I, x_U, x_bl, x_ret, x_next, x_eqS, x_neS, x_m0, x_m1, x_isStr, x_SM, x_addT, x_slS, x_lenS, x_strI, x_mulS, x_startT, x_findT, x_preT, x_lstT, x_ascT, x_digT, x_jn, x_js0, x_js1, x_isS, x_fmt, x_fmtS, x_divW, x_truK, x_truS, x_raiseT, x_asg, x_name, x_set0, x_setS, x_drop, x_cb, x_cons, x_nil, x_int1, x_abs1, x_max2, x_gcd, x_gsub, x_sl, x_part, x_nopart, x_int, x_call, x_lst, x_tup, x_not, x_and, x_or, x_andV, x_orV, x_notV, x_ifE, x_eqI, x_neI, x_eqB, x_neB, x_tbm, x_never, x_make, x_meth, x_isII, x_isIC, x_bool1, decide_eq_true_eq, Bool.false_eq_true, if_false, if_true, List.append_nil, List.nil_append, List.cons_append]
    exact k D H' es' nss' s hD hrow' hp ha
end
end SpX

set_option Elab.async false
set_option linter.all false
set_option maxRecDepth 100000
set_option maxHeartbeats 4000000
/-! Law k26: an order is what it was asked for; monomials, rankings, words drawn. -/
namespace SpX
open PySem PySem.Spec L2 StX RZ
theorem int_of' {i : Int} {H : Hp} {Q : VK} {E : XK} (k : Q (.bl true) H) : spInteger [.int i] H Q E := ⟨i, rfl, k⟩
def rIsS : List V → Hp → VK → Prop := fun xs H Q => ∃ a : Str, xs = [.str a, .ty "str"] ∧ Q (.bl true) H
theorem call_isS {X : Cx} : CallR X (.builtin "isinstance") rIsS := by
  intro pins s σ H xs us Q I r h
  obtain ⟨a, rfl, q⟩ := h
  exact call_isi pins s σ H _ us Q I r ⟨_, _, _, _, _, rfl, .ty _, .base (.str a), kit_ty (by decide +kernel), q⟩
theorem x_isSS {H : Hp} {Q : VK} {a : Str} : rIsS [.str a, .ty "str"] H Q = Q (.bl true) H := propext (Iff.intro (fun ⟨_, e, k⟩ => k) fun k => ⟨a, rfl, k⟩)
def spOIs (C : Addr) : Sp := fun vs H Q _ => ∃ (p r : Addr) (kd : Str) (rk : List Int), vs = [.ref p, .str kd, .ref r] ∧ OrdAt C H p kd rk ∧ GoodO kd rk ∧ H r = some (.lst (rk.map V.int)) ∧ Q (.bl true) H
def t_ois (K : PySem.W.Frag) (C Z BO f_oplace : Addr) (E : XK) : TS :=
    (tSeq (tIfS (tOr (tNot (tB (tCB (rIsA C) (tCons (tVar 0) (tCons (tC (.ref C)) tNil))))) (tOr (tNot (tB (tCB rIsS (tCons (tUn (rFld C "kind") (tVar 0)) (tCons (tC (.ty "str")) tNil))))) (tTest (tOp rNe (tUn (rFld C "kind") (tVar 0)) (tVar 1))))) (tRet (tC (.bl false))) tNext)
    (tSeq (tIfS (tOr (tNot (tB (tCB rIsB (tCons (tUn (rFld C "ranking") (tVar 0)) (tCons (tC (.ty "tuple")) tNil))))) (tTest (tOp rNe (tCB rLenA (tCons (tUn (rFld C "ranking") (tVar 0)) tNil)) (tCB rLenA (tCons (tVar 2) tNil))))) (tRet (tC (.bl false))) tNext)
    (tSeq (tFor (iRng1 (tCons (tCB rLenA (tCons (tVar 2) tNil)) tNil)) (gName 3) ((tIfS (tOr (tNot (tB (tCall spInteger [] E0 (tCons (tOp rIx1 (tUn (rFld C "ranking") (tVar 0)) (tVar 3)) tNil)))) (tTest (tOp rNe (tOp rIx1 (tUn (rFld C "ranking") (tVar 0)) (tVar 3)) (tOp rIx1 (tVar 2) (tVar 3))))) (tRet (tC (.bl false))) tNext)))
    (tRet (tAndV (tCall spInteger [] E0 (tCons (tUn (rFld C "dimension") (tVar 0)) tNil)) (tOp rEq (tUn (rFld C "dimension") (tVar 0)) (tCB rLenA (tCons (tVar 2) tNil))))))))
section
variable {K : PySem.W.Frag} {C Z BO f_oplace : Addr}
theorem pure_ois (vs : List V) (H : Hp) (Q : VK) (E : XK) (h : spOIs C vs H Q E) : t_ois K C Z BO f_oplace E { nx := fun _ H' => Q .non H', rt := Q } (start ["order", "kind", "ranking", "k"] vs) H := by
  obtain ⟨p, r, kd, rk, rfl, ⟨dx, o, hp, ho⟩, g, hr, k⟩ := h
  show t_ois K C Z BO f_oplace E _ [some (.ref p), some (.str kd), some (.ref r), none] H
  unfold t_ois
  rw [x_seq]
  simp only [x_if, x_test, x_B, x_op, x_un, x_varS, x_var0, x_c, x_I0, x_I, x_U, x_bl, x_ret, x_next, x_eqS, x_neS, x_m0, x_m1, x_isStr, x_SM, x_addT, x_slS, x_lenS, x_strI, x_mulS, x_startT, x_findT, x_preT, x_lstT, x_ascT, x_digT, x_jn, x_js0, x_js1, x_isS, x_fmt, x_fmtS, x_divW, x_truK, x_truS, x_raiseT, x_asg, x_name, x_set0, x_setS, x_drop, x_cb, x_cons, x_nil, x_int1, x_abs1, x_max2, x_gcd, x_gsub, x_sl, x_part, x_nopart, x_int, x_call, x_lst, x_tup, x_not, x_and, x_or, x_andV, x_orV, x_notV, x_ifE, x_eqI, x_neI, x_eqB, x_neB, x_tbm, x_never, x_make, x_meth, x_isII, x_isIC, x_bool1, decide_eq_true_eq, Bool.false_eq_true, if_false, if_true, List.append_nil, List.nil_append, List.cons_append, x_isRC hp, x_fldv hp lk_kind, x_isSS, decide_true, Bool.not_true]
  rw [x_seq]
  simp only [x_if, x_test, x_B, x_op, x_un, x_varS, x_var0, x_c, x_I0, x_I, x_U, x_bl, x_ret, x_next, x_eqS, x_neS, x_m0, x_m1, x_isStr, x_SM, x_addT, x_slS, x_lenS, x_strI, x_mulS, x_startT, x_findT, x_preT, x_lstT, x_ascT, x_digT, x_jn, x_js0, x_js1, x_isS, x_fmt, x_fmtS, x_divW, x_truK, x_truS, x_raiseT, x_asg, x_name, x_set0, x_setS, x_drop, x_cb, x_cons, x_nil, x_int1, x_abs1, x_max2, x_gcd, x_gsub, x_sl, x_part, x_nopart, x_int, x_call, x_lst, x_tup, x_not, x_and, x_or, x_andV, x_orV, x_notV, x_ifE, x_eqI, x_neI, x_eqB, x_neB, x_tbm, x_never, x_make, x_meth, x_isII, x_isIC, x_bool1, decide_eq_true_eq, Bool.false_eq_true, if_false, if_true, List.append_nil, List.nil_append, List.cons_append, x_fldv hp lk_rank, x_isTT ho, x_lenT ho, x_lenA hr, List.length_map, decide_true, Bool.not_true, ne_eq, not_true, decide_false]
  rw [x_seq]
  refine for_rngE (j := (rk.length : Int)) (fun QA => by simp only [x_if, x_test, x_B, x_op, x_un, x_varS, x_var0, x_c, x_I0, x_I, x_U, x_bl, x_ret, x_next, x_eqS, x_neS, x_m0, x_m1, x_isStr, x_SM, x_addT, x_slS, x_lenS, x_strI, x_mulS, x_startT, x_findT, x_preT, x_lstT, x_ascT, x_digT, x_jn, x_js0, x_js1, x_isS, x_fmt, x_fmtS, x_divW, x_truK, x_truS, x_raiseT, x_asg, x_name, x_set0, x_setS, x_drop, x_cb, x_cons, x_nil, x_int1, x_abs1, x_max2, x_gcd, x_gsub, x_sl, x_part, x_nopart, x_int, x_call, x_lst, x_tup, x_not, x_and, x_or, x_andV, x_orV, x_notV, x_ifE, x_eqI, x_neI, x_eqB, x_neB, x_tbm, x_never, x_make, x_meth, x_isII, x_isIC, x_bool1, decide_eq_true_eq, Bool.false_eq_true, if_false, if_true, List.append_nil, List.nil_append, List.cons_append, x_lenA hr, List.length_map]) (by have := g.hi; omega) (fun i σ H' => H' = H ∧ ∃ w, σ = [some (.ref p), some (.str kd), some (.ref r), w]) ⟨rfl, _, rfl⟩ ?_ ?_
  · rintro i σ H' hi ⟨rfl, w, rfl⟩
    have hi' : i < rk.length := by omega
    have ai : atI (rk.map V.int) (i : Int) = some (.int (rk.getD i 0)) := by
      have := atI_nth (ns := rk) (z := (i : Int)) (by omega) hi
      rwa [Int.toNat_natCast] at this
    simp only [x_if, x_test, x_B, x_op, x_un, x_varS, x_var0, x_c, x_I0, x_I, x_U, x_bl, x_ret, x_next, x_eqS, x_neS, x_m0, x_m1, x_isStr, x_SM, x_addT, x_slS, x_lenS, x_strI, x_mulS, x_startT, x_findT, x_preT, x_lstT, x_ascT, x_digT, x_jn, x_js0, x_js1, x_isS, x_fmt, x_fmtS, x_divW, x_truK, x_truS, x_raiseT, x_asg, x_name, x_set0, x_setS, x_drop, x_cb, x_cons, x_nil, x_int1, x_abs1, x_max2, x_gcd, x_gsub, x_sl, x_part, x_nopart, x_int, x_call, x_lst, x_tup, x_not, x_and, x_or, x_andV, x_orV, x_notV, x_ifE, x_eqI, x_neI, x_eqB, x_neB, x_tbm, x_never, x_make, x_meth, x_isII, x_isIC, x_bool1, decide_eq_true_eq, Bool.false_eq_true, if_false, if_true, List.append_nil, List.nil_append, List.cons_append, x_fldv hp lk_rank, x_ixT ho ai, x_ix hr ai]
    refine int_of' ?_
    simp only [x_if, x_test, x_B, x_op, x_un, x_varS, x_var0, x_c, x_I0, x_I, x_U, x_bl, x_ret, x_next, x_eqS, x_neS, x_m0, x_m1, x_isStr, x_SM, x_addT, x_slS, x_lenS, x_strI, x_mulS, x_startT, x_findT, x_preT, x_lstT, x_ascT, x_digT, x_jn, x_js0, x_js1, x_isS, x_fmt, x_fmtS, x_divW, x_truK, x_truS, x_raiseT, x_asg, x_name, x_set0, x_setS, x_drop, x_cb, x_cons, x_nil, x_int1, x_abs1, x_max2, x_gcd, x_gsub, x_sl, x_part, x_nopart, x_int, x_call, x_lst, x_tup, x_not, x_and, x_or, x_andV, x_orV, x_notV, x_ifE, x_eqI, x_neI, x_eqB, x_neB, x_tbm, x_never, x_make, x_meth, x_isII, x_isIC, x_bool1, decide_eq_true_eq, Bool.false_eq_true, if_false, if_true, List.append_nil, List.nil_append, List.cons_append, x_fldv hp lk_rank, x_ixT ho ai, x_ix hr ai, decide_true, Bool.not_true, ne_eq, not_true, decide_false]
    exact ⟨trivial, _, rfl⟩
  · rintro σ H' ⟨rfl, w, rfl⟩
    simp only [x_if, x_test, x_B, x_op, x_un, x_varS, x_var0, x_c, x_I0, x_I, x_U, x_bl, x_ret, x_next, x_eqS, x_neS, x_m0, x_m1, x_isStr, x_SM, x_addT, x_slS, x_lenS, x_strI, x_mulS, x_startT, x_findT, x_preT, x_lstT, x_ascT, x_digT, x_jn, x_js0, x_js1, x_isS, x_fmt, x_fmtS, x_divW, x_truK, x_truS, x_raiseT, x_asg, x_name, x_set0, x_setS, x_drop, x_cb, x_cons, x_nil, x_int1, x_abs1, x_max2, x_gcd, x_gsub, x_sl, x_part, x_nopart, x_int, x_call, x_lst, x_tup, x_not, x_and, x_or, x_andV, x_orV, x_notV, x_ifE, x_eqI, x_neI, x_eqB, x_neB, x_tbm, x_never, x_make, x_meth, x_isII, x_isIC, x_bool1, decide_eq_true_eq, Bool.false_eq_true, if_false, if_true, List.append_nil, List.nil_append, List.cons_append, x_fldv hp lk_dim]
    refine int_of' ?_
    simp only [x_if, x_test, x_B, x_op, x_un, x_varS, x_var0, x_c, x_I0, x_I, x_U, x_bl, x_ret, x_next, x_eqS, x_neS, x_m0, x_m1, x_isStr, x_SM, x_addT, x_slS, x_lenS, x_strI, x_mulS, x_startT, x_findT, x_preT, x_lstT, x_ascT, x_digT, x_jn, x_js0, x_js1, x_isS, x_fmt, x_fmtS, x_divW, x_truK, x_truS, x_raiseT, x_asg, x_name, x_set0, x_setS, x_drop, x_cb, x_cons, x_nil, x_int1, x_abs1, x_max2, x_gcd, x_gsub, x_sl, x_part, x_nopart, x_int, x_call, x_lst, x_tup, x_not, x_and, x_or, x_andV, x_orV, x_notV, x_ifE, x_eqI, x_neI, x_eqB, x_neB, x_tbm, x_never, x_make, x_meth, x_isII, x_isIC, x_bool1, decide_eq_true_eq, Bool.false_eq_true, if_false, if_true, List.append_nil, List.nil_append, List.cons_append, x_fldv hp lk_dim, x_lenA hr, List.length_map, decide_true]
    exact k
end
end SpX

set_option Elab.async false
set_option linter.all false
set_option maxRecDepth 100000
set_option maxHeartbeats 4000000
/-! Law k26: monomials, rankings drawn. -/
namespace SpX
open PySem PySem.Spec L2 StX RZ
/-- a growing list of tuples of d numbers from 0 on -/
def GoodL (H : Hp) (D : Addr) (d n : Nat) (ne : Prop) : Prop := ∃ es nss, H D = some (.lst (es.map V.ref)) ∧ RowsAt H es nss ∧ (∀ ns ∈ nss, ns.length = d ∧ ∀ x ∈ ns, 0 ≤ x) ∧ es.length ≤ n ∧ (ne → 0 < es.length)
def Kept (D : Addr) (H H' : Hp) : Prop := ∀ b o, b ≠ D → H b = some o → H' b = some o
theorem Kept.trans {D : Addr} {H H1 H2 : Hp} (a : Kept D H H1) (b : Kept D H1 H2) : Kept D H H2 := fun c o n h => b c o n (a c o n h)
theorem RowsAt.snoc {H : Hp} {es : List Addr} {nss : List (List Int)} {e : Addr} {ns : List Int} (h : RowsAt H es nss) (he : ExpAt H e ns) : RowsAt H (es ++ [e]) (nss ++ [ns]) := by
  have := rows_ins (c := nss.length) h he (Nat.le_refl _)
  rwa [← h.1, List.take_length, List.drop_length, h.1, List.take_length, List.drop_length] at this
theorem good_app {H : Hp} {D t : Addr} {d n : Nat} {ne : Prop} {ns : List Int} (h : GoodL H D d n ne) (ht : H t = none) (hn : ns.length = d) (h0 : ∀ x ∈ ns, 0 ≤ x) (hm : n < 1000) : ∃ xs, (upd H t (.tup (ns.map V.int))) D = some (.lst xs) ∧ xs.length < sizeLine ∧
    GoodL (upd (upd H t (.tup (ns.map V.int))) D (.lst (xs ++ [.ref t]))) D d (n + 1) True ∧ Kept D H (upd (upd H t (.tup (ns.map V.int))) D (.lst (xs ++ [.ref t]))) := by
  obtain ⟨es, nss, hD, hr, ha, hl, _⟩ := h
  have s : Same H (upd H t (.tup (ns.map V.int))) := Same.new ht
  have ntd : t ≠ D := fun e => by rw [e, hD] at ht; cases ht
  refine ⟨es.map V.ref, s _ _ hD, Nat.lt_of_lt_of_le (show _ < 1000 by rw [List.length_map]; omega) (by decide), ⟨es ++ [t], nss ++ [ns], by rw [upd_same, List.map_append]; rfl, ?_, fun ms hm' => ?_, by rw [List.length_append]; show es.length + 1 ≤ n + 1; omega, fun _ => by rw [List.length_append]; show 0 < es.length + 1; omega⟩, fun b o hb e => by rw [upd_ne hb]; exact s _ _ e⟩
  · have off : ∀ (q : Addr) (ms : List Int), ExpAt (upd H t (.tup (ns.map V.int))) q ms → ExpAt (upd (upd H t (.tup (ns.map V.int))) D (.lst (es.map V.ref ++ [.ref t]))) q ms := fun q ms hq => by
      have : q ≠ D := fun e => by
        rw [e, ExpAt, s _ _ hD] at hq
        cases hq
      rw [ExpAt, upd_ne this]
      exact hq
    have r1 := (hr.same s).snoc (e := t) (ns := ns) upd_same
    exact ⟨r1.1, fun i q ms a b => off q ms (r1.2 i q ms a b)⟩
  · rcases List.mem_append.mp hm' with h | h
    · exact ha ms h
    · rw [List.mem_singleton.mp h]
      exact ⟨hn, h0⟩
def spOMons : Sp := fun vs H Q _ => ∃ d : Nat, vs = [.int d, .int 8] ∧ 1 ≤ d ∧ d ≤ 3 ∧ ∀ D H', H D = none → Same H H' → GoodL H' D d 900 True → Q (.ref D) H'
def t_omons (K : PySem.W.Frag) (C Z BO f_oplace : Addr) (E : XK) : TS :=
    (tSeq (tAsg (tLst tNil) (gName 2))
    (tSeq (tFor (iRng1 (tCons (tOp (rI0 fun i j => .int (i + j)) (tVar 1) (tC (.int 1))) tNil)) (gName 3) ((tFor (iRng1 (tCons (tOp (rI0 fun i j => .int (i + j)) (tVar 3) (tC (.int 1))) tNil)) (gName 4) ((tSeq (tAsg (tOp (rI0 fun i j => .int (i - j)) (tVar 3) (tVar 4)) (gName 5))
    (tSeq (tIfS (tAnd (tTest (tOp rEq (tVar 0) (tC (.int 1)))) (tTest (tOp rEq (tVar 4) (tC (.int 0))))) (tDrop (tBM K "list" rAppend (tVar 2) (tCons (tTup (tCons (tVar 3) tNil)) tNil))) tNext)
    (tSeq (tIfS (tTest (tOp rEq (tVar 0) (tC (.int 2)))) (tDrop (tBM K "list" rAppend (tVar 2) (tCons (tTup (tCons (tVar 5) (tCons (tVar 4) tNil))) tNil))) tNext)
    (tIfS (tTest (tOp rEq (tVar 0) (tC (.int 3)))) (tFor (iRng1 (tCons (tOp (rI0 fun i j => .int (i + j)) (tVar 4) (tC (.int 1))) tNil)) (gName 6) ((tDrop (tBM K "list" rAppend (tVar 2) (tCons (tTup (tCons (tVar 5) (tCons (tOp (rI0 fun i j => .int (i - j)) (tVar 4) (tVar 6)) (tCons (tVar 6) tNil)))) tNil))))) tNext))))))))
    (tRet (tVar 2))))
section
variable {K : PySem.W.Frag} {C Z BO f_oplace : Addr}
theorem Kept.same {D : Addr} {H H' : Hp} (k : Kept D H H') (h : H D = none) : Same H H' := fun b o e => k b o (fun z => by rw [z, h] at e; cases e) e
theorem GoodL.weak {H : Hp} {D : Addr} {d n m : Nat} {ne ne' : Prop} (h : GoodL H D d n ne) (l : n ≤ m) (i : ne' → ne) : GoodL H D d m ne' := by
  obtain ⟨es, nss, a, b, c, e, f⟩ := h
  exact ⟨es, nss, a, b, c, Nat.le_trans e l, fun z => f (i z)⟩
theorem good_ty {H : Hp} {D : Addr} {d n : Nat} {ne : Prop} (h : GoodL H D d n ne) : tyV K "list" (.ref D) H := by
  obtain ⟨es, nss, a, _⟩ := h
  exact ty_lst a
theorem pure_omons (vs : List V) (H : Hp) (Q : VK) (E : XK) (h : spOMons vs H Q E) : t_omons K C Z BO f_oplace E { nx := fun _ H' => Q .non H', rt := Q } (start ["dimension", "high", "found", "total", "left", "first", "last"] vs) H := by
  obtain ⟨d, rfl, d1, d3, k⟩ := h
  show t_omons K C Z BO f_oplace E _ [some (.int d), some (.int 8), none, none, none, none, none] H
  unfold t_omons
  rw [x_seq]
  simp only [x_if, x_test, x_B, x_op, x_un, x_varS, x_var0, x_c, x_I0, x_I, x_U, x_bl, x_ret, x_next, x_eqS, x_neS, x_m0, x_m1, x_isStr, x_SM, x_addT, x_slS, x_lenS, x_strI, x_mulS, x_startT, x_findT, x_preT, x_lstT, x_ascT, x_digT, x_jn, x_js0, x_js1, x_isS, x_fmt, x_fmtS, x_divW, x_truK, x_truS, x_raiseT, x_asg, x_name, x_set0, x_setS, x_drop, x_cb, x_cons, x_nil, x_int1, x_abs1, x_max2, x_gcd, x_gsub, x_sl, x_part, x_nopart, x_int, x_call, x_lst, x_tup, x_not, x_and, x_or, x_andV, x_orV, x_notV, x_ifE, x_eqI, x_neI, x_eqB, x_neB, x_tbm, x_never, x_make, x_meth, x_isII, x_isIC, x_bool1, decide_eq_true_eq, Bool.false_eq_true, if_false, if_true, List.append_nil, List.nil_append, List.cons_append]
  refine ⟨by decide, fun D hD => ?_⟩
  have k0 : Kept D H (upd H D (.lst [])) := fun b o hb e => by rw [upd_ne hb]; exact e
  have g0 : GoodL (upd H D (.lst [])) D d 0 False := ⟨[], [], upd_same, ⟨rfl, fun i q ns h => by simp at h⟩, fun _ h => by simp at h, Nat.le_refl _, False.elim⟩
  generalize (upd H D (.lst [])) = H0 at k0 g0 ⊢
  try dsimp only
  rw [x_seq]
  refine for_rngE (j := 9) (fun QA => by simp only [x_if, x_test, x_B, x_op, x_un, x_varS, x_var0, x_c, x_I0, x_I, x_U, x_bl, x_ret, x_next, x_eqS, x_neS, x_m0, x_m1, x_isStr, x_SM, x_addT, x_slS, x_lenS, x_strI, x_mulS, x_startT, x_findT, x_preT, x_lstT, x_ascT, x_digT, x_jn, x_js0, x_js1, x_isS, x_fmt, x_fmtS, x_divW, x_truK, x_truS, x_raiseT, x_asg, x_name, x_set0, x_setS, x_drop, x_cb, x_cons, x_nil, x_int1, x_abs1, x_max2, x_gcd, x_gsub, x_sl, x_part, x_nopart, x_int, x_call, x_lst, x_tup, x_not, x_and, x_or, x_andV, x_orV, x_notV, x_ifE, x_eqI, x_neI, x_eqB, x_neB, x_tbm, x_never, x_make, x_meth, x_isII, x_isIC, x_bool1, decide_eq_true_eq, Bool.false_eq_true, if_false, if_true, List.append_nil, List.nil_append, List.cons_append]; rfl) (by decide) (fun i σ H' => Kept D H H' ∧ GoodL H' D d (90 * i) (0 < i) ∧ ∃ w3 w4 w5 w6, σ = [some (.int d), some (.int 8), some (.ref D), w3, w4, w5, w6]) ⟨k0, g0.weak (Nat.le_refl _) (fun z => absurd z (by decide)), _, _, _, _, rfl⟩ ?_ ?_
  · rintro t σ H' ht ⟨k1, g1, w3, w4, w5, w6, rfl⟩
    simp only [x_name, x_setS, x_set0]
    refine for_rngE (j := (t : Int) + 1) (fun QA => by simp only [x_if, x_test, x_B, x_op, x_un, x_varS, x_var0, x_c, x_I0, x_I, x_U, x_bl, x_ret, x_next, x_eqS, x_neS, x_m0, x_m1, x_isStr, x_SM, x_addT, x_slS, x_lenS, x_strI, x_mulS, x_startT, x_findT, x_preT, x_lstT, x_ascT, x_digT, x_jn, x_js0, x_js1, x_isS, x_fmt, x_fmtS, x_divW, x_truK, x_truS, x_raiseT, x_asg, x_name, x_set0, x_setS, x_drop, x_cb, x_cons, x_nil, x_int1, x_abs1, x_max2, x_gcd, x_gsub, x_sl, x_part, x_nopart, x_int, x_call, x_lst, x_tup, x_not, x_and, x_or, x_andV, x_orV, x_notV, x_ifE, x_eqI, x_neI, x_eqB, x_neB, x_tbm, x_never, x_make, x_meth, x_isII, x_isIC, x_bool1, decide_eq_true_eq, Bool.false_eq_true, if_false, if_true, List.append_nil, List.nil_append, List.cons_append]) (by omega) (fun i σ H' => Kept D H H' ∧ GoodL H' D d (90 * t + 10 * i) (0 < i) ∧ ∃ w4 w5 w6, σ = [some (.int d), some (.int 8), some (.ref D), some (.int t), w4, w5, w6]) ⟨k1, g1.weak (by omega) (fun z => absurd z (by decide)), _, _, _, rfl⟩ ?_ ?_
    · rintro l σ H' hl ⟨k2, g2, w4, w5, w6, rfl⟩
      simp only [x_name, x_setS, x_set0]
      rw [x_seq]
      simp only [x_if, x_test, x_B, x_op, x_un, x_varS, x_var0, x_c, x_I0, x_I, x_U, x_bl, x_ret, x_next, x_eqS, x_neS, x_m0, x_m1, x_isStr, x_SM, x_addT, x_slS, x_lenS, x_strI, x_mulS, x_startT, x_findT, x_preT, x_lstT, x_ascT, x_digT, x_jn, x_js0, x_js1, x_isS, x_fmt, x_fmtS, x_divW, x_truK, x_truS, x_raiseT, x_asg, x_name, x_set0, x_setS, x_drop, x_cb, x_cons, x_nil, x_int1, x_abs1, x_max2, x_gcd, x_gsub, x_sl, x_part, x_nopart, x_int, x_call, x_lst, x_tup, x_not, x_and, x_or, x_andV, x_orV, x_notV, x_ifE, x_eqI, x_neI, x_eqB, x_neB, x_tbm, x_never, x_make, x_meth, x_isII, x_isIC, x_bool1, decide_eq_true_eq, Bool.false_eq_true, if_false, if_true, List.append_nil, List.nil_append, List.cons_append]
      have tl : (0 : Int) ≤ (t : Int) - l := by omega
      obtain rfl | rfl | rfl : d = 1 ∨ d = 2 ∨ d = 3 := by omega
      · rw [x_seq]
        simp only [x_if, x_test, x_B, x_op, x_un, x_varS, x_var0, x_c, x_I0, x_I, x_U, x_bl, x_ret, x_next, x_eqS, x_neS, x_m0, x_m1, x_isStr, x_SM, x_addT, x_slS, x_lenS, x_strI, x_mulS, x_startT, x_findT, x_preT, x_lstT, x_ascT, x_digT, x_jn, x_js0, x_js1, x_isS, x_fmt, x_fmtS, x_divW, x_truK, x_truS, x_raiseT, x_asg, x_name, x_set0, x_setS, x_drop, x_cb, x_cons, x_nil, x_int1, x_abs1, x_max2, x_gcd, x_gsub, x_sl, x_part, x_nopart, x_int, x_call, x_lst, x_tup, x_not, x_and, x_or, x_andV, x_orV, x_notV, x_ifE, x_eqI, x_neI, x_eqB, x_neB, x_tbm, x_never, x_make, x_meth, x_isII, x_isIC, x_bool1, decide_eq_true_eq, Bool.false_eq_true, if_false, if_true, List.append_nil, List.nil_append, List.cons_append]
        rw [if_pos (by decide)]
        refine ite2 (fun h0 => ?_) fun h0 => ?_
        · refine ⟨good_ty g2, by show 1 ≤ sizeLine; decide, fun q hq => ?_⟩
          obtain ⟨xs, e1, lz, g3, k3⟩ := good_app (ns := [(t : Int)]) g2 hq rfl (fun x hx => by rw [List.mem_singleton.mp hx]; omega) (by omega)
          simp only [List.map_cons, List.map_nil] at e1 g3 k3
          rw [x_append e1 lz]
          rw [x_seq]
          simp only [x_if, x_test, x_B, x_op, x_un, x_varS, x_var0, x_c, x_I0, x_I, x_U, x_bl, x_ret, x_next, x_eqS, x_neS, x_m0, x_m1, x_isStr, x_SM, x_addT, x_slS, x_lenS, x_strI, x_mulS, x_startT, x_findT, x_preT, x_lstT, x_ascT, x_digT, x_jn, x_js0, x_js1, x_isS, x_fmt, x_fmtS, x_divW, x_truK, x_truS, x_raiseT, x_asg, x_name, x_set0, x_setS, x_drop, x_cb, x_cons, x_nil, x_int1, x_abs1, x_max2, x_gcd, x_gsub, x_sl, x_part, x_nopart, x_int, x_call, x_lst, x_tup, x_not, x_and, x_or, x_andV, x_orV, x_notV, x_ifE, x_eqI, x_neI, x_eqB, x_neB, x_tbm, x_never, x_make, x_meth, x_isII, x_isIC, x_bool1, decide_eq_true_eq, Bool.false_eq_true, if_false, if_true, List.append_nil, List.nil_append, List.cons_append]
          rw [if_neg (by decide), if_neg (by decide)]
          exact ⟨k2.trans k3, g3.weak (by omega) (fun _ => trivial), _, _, _, rfl⟩
        · rw [x_seq]
          simp only [x_if, x_test, x_B, x_op, x_un, x_varS, x_var0, x_c, x_I0, x_I, x_U, x_bl, x_ret, x_next, x_eqS, x_neS, x_m0, x_m1, x_isStr, x_SM, x_addT, x_slS, x_lenS, x_strI, x_mulS, x_startT, x_findT, x_preT, x_lstT, x_ascT, x_digT, x_jn, x_js0, x_js1, x_isS, x_fmt, x_fmtS, x_divW, x_truK, x_truS, x_raiseT, x_asg, x_name, x_set0, x_setS, x_drop, x_cb, x_cons, x_nil, x_int1, x_abs1, x_max2, x_gcd, x_gsub, x_sl, x_part, x_nopart, x_int, x_call, x_lst, x_tup, x_not, x_and, x_or, x_andV, x_orV, x_notV, x_ifE, x_eqI, x_neI, x_eqB, x_neB, x_tbm, x_never, x_make, x_meth, x_isII, x_isIC, x_bool1, decide_eq_true_eq, Bool.false_eq_true, if_false, if_true, List.append_nil, List.nil_append, List.cons_append]
          rw [if_neg (by decide), if_neg (by decide)]
          exact ⟨k2, g2.weak (by omega) (fun _ => by omega), _, _, _, rfl⟩
      · rw [x_seq]
        simp only [x_if, x_test, x_B, x_op, x_un, x_varS, x_var0, x_c, x_I0, x_I, x_U, x_bl, x_ret, x_next, x_eqS, x_neS, x_m0, x_m1, x_isStr, x_SM, x_addT, x_slS, x_lenS, x_strI, x_mulS, x_startT, x_findT, x_preT, x_lstT, x_ascT, x_digT, x_jn, x_js0, x_js1, x_isS, x_fmt, x_fmtS, x_divW, x_truK, x_truS, x_raiseT, x_asg, x_name, x_set0, x_setS, x_drop, x_cb, x_cons, x_nil, x_int1, x_abs1, x_max2, x_gcd, x_gsub, x_sl, x_part, x_nopart, x_int, x_call, x_lst, x_tup, x_not, x_and, x_or, x_andV, x_orV, x_notV, x_ifE, x_eqI, x_neI, x_eqB, x_neB, x_tbm, x_never, x_make, x_meth, x_isII, x_isIC, x_bool1, decide_eq_true_eq, Bool.false_eq_true, if_false, if_true, List.append_nil, List.nil_append, List.cons_append]
        rw [if_neg (by decide), x_seq]
        simp only [x_if, x_test, x_B, x_op, x_un, x_varS, x_var0, x_c, x_I0, x_I, x_U, x_bl, x_ret, x_next, x_eqS, x_neS, x_m0, x_m1, x_isStr, x_SM, x_addT, x_slS, x_lenS, x_strI, x_mulS, x_startT, x_findT, x_preT, x_lstT, x_ascT, x_digT, x_jn, x_js0, x_js1, x_isS, x_fmt, x_fmtS, x_divW, x_truK, x_truS, x_raiseT, x_asg, x_name, x_set0, x_setS, x_drop, x_cb, x_cons, x_nil, x_int1, x_abs1, x_max2, x_gcd, x_gsub, x_sl, x_part, x_nopart, x_int, x_call, x_lst, x_tup, x_not, x_and, x_or, x_andV, x_orV, x_notV, x_ifE, x_eqI, x_neI, x_eqB, x_neB, x_tbm, x_never, x_make, x_meth, x_isII, x_isIC, x_bool1, decide_eq_true_eq, Bool.false_eq_true, if_false, if_true, List.append_nil, List.nil_append, List.cons_append]
        rw [if_pos (by decide)]
        refine ⟨good_ty g2, by show 2 ≤ sizeLine; decide, fun q hq => ?_⟩
        obtain ⟨xs, e1, lz, g3, k3⟩ := good_app (ns := [(t : Int) - l, (l : Int)]) g2 hq rfl (fun x hx => by
          rcases List.mem_cons.mp hx with rfl | hx
          · exact tl
          · rw [List.mem_singleton.mp hx]; omega) (by omega)
        simp only [List.map_cons, List.map_nil] at e1 g3 k3
        rw [x_append e1 lz, if_neg (by decide)]
        exact ⟨k2.trans k3, g3.weak (by omega) (fun _ => trivial), _, _, _, rfl⟩
      · rw [x_seq]
        simp only [x_if, x_test, x_B, x_op, x_un, x_varS, x_var0, x_c, x_I0, x_I, x_U, x_bl, x_ret, x_next, x_eqS, x_neS, x_m0, x_m1, x_isStr, x_SM, x_addT, x_slS, x_lenS, x_strI, x_mulS, x_startT, x_findT, x_preT, x_lstT, x_ascT, x_digT, x_jn, x_js0, x_js1, x_isS, x_fmt, x_fmtS, x_divW, x_truK, x_truS, x_raiseT, x_asg, x_name, x_set0, x_setS, x_drop, x_cb, x_cons, x_nil, x_int1, x_abs1, x_max2, x_gcd, x_gsub, x_sl, x_part, x_nopart, x_int, x_call, x_lst, x_tup, x_not, x_and, x_or, x_andV, x_orV, x_notV, x_ifE, x_eqI, x_neI, x_eqB, x_neB, x_tbm, x_never, x_make, x_meth, x_isII, x_isIC, x_bool1, decide_eq_true_eq, Bool.false_eq_true, if_false, if_true, List.append_nil, List.nil_append, List.cons_append]
        rw [if_neg (by decide), x_seq]
        simp only [x_if, x_test, x_B, x_op, x_un, x_varS, x_var0, x_c, x_I0, x_I, x_U, x_bl, x_ret, x_next, x_eqS, x_neS, x_m0, x_m1, x_isStr, x_SM, x_addT, x_slS, x_lenS, x_strI, x_mulS, x_startT, x_findT, x_preT, x_lstT, x_ascT, x_digT, x_jn, x_js0, x_js1, x_isS, x_fmt, x_fmtS, x_divW, x_truK, x_truS, x_raiseT, x_asg, x_name, x_set0, x_setS, x_drop, x_cb, x_cons, x_nil, x_int1, x_abs1, x_max2, x_gcd, x_gsub, x_sl, x_part, x_nopart, x_int, x_call, x_lst, x_tup, x_not, x_and, x_or, x_andV, x_orV, x_notV, x_ifE, x_eqI, x_neI, x_eqB, x_neB, x_tbm, x_never, x_make, x_meth, x_isII, x_isIC, x_bool1, decide_eq_true_eq, Bool.false_eq_true, if_false, if_true, List.append_nil, List.nil_append, List.cons_append]
        rw [if_neg (by decide), if_pos (by decide)]
        refine for_rngE (j := (l : Int) + 1) (fun QA => by simp only [x_if, x_test, x_B, x_op, x_un, x_varS, x_var0, x_c, x_I0, x_I, x_U, x_bl, x_ret, x_next, x_eqS, x_neS, x_m0, x_m1, x_isStr, x_SM, x_addT, x_slS, x_lenS, x_strI, x_mulS, x_startT, x_findT, x_preT, x_lstT, x_ascT, x_digT, x_jn, x_js0, x_js1, x_isS, x_fmt, x_fmtS, x_divW, x_truK, x_truS, x_raiseT, x_asg, x_name, x_set0, x_setS, x_drop, x_cb, x_cons, x_nil, x_int1, x_abs1, x_max2, x_gcd, x_gsub, x_sl, x_part, x_nopart, x_int, x_call, x_lst, x_tup, x_not, x_and, x_or, x_andV, x_orV, x_notV, x_ifE, x_eqI, x_neI, x_eqB, x_neB, x_tbm, x_never, x_make, x_meth, x_isII, x_isIC, x_bool1, decide_eq_true_eq, Bool.false_eq_true, if_false, if_true, List.append_nil, List.nil_append, List.cons_append]) (by omega) (fun i σ H' => Kept D H H' ∧ GoodL H' D 3 (90 * t + 10 * l + i) (0 < i) ∧ ∃ w6, σ = [some (.int (3 : Nat)), some (.int 8), some (.ref D), some (.int t), some (.int l), some (.int (t - l)), w6]) ⟨k2, g2.weak (by omega) (fun z => absurd z (by decide)), _, rfl⟩ ?_ ?_
        · rintro i σ H' hi ⟨k3, g3, w6, rfl⟩
          simp only [x_if, x_test, x_B, x_op, x_un, x_varS, x_var0, x_c, x_I0, x_I, x_U, x_bl, x_ret, x_next, x_eqS, x_neS, x_m0, x_m1, x_isStr, x_SM, x_addT, x_slS, x_lenS, x_strI, x_mulS, x_startT, x_findT, x_preT, x_lstT, x_ascT, x_digT, x_jn, x_js0, x_js1, x_isS, x_fmt, x_fmtS, x_divW, x_truK, x_truS, x_raiseT, x_asg, x_name, x_set0, x_setS, x_drop, x_cb, x_cons, x_nil, x_int1, x_abs1, x_max2, x_gcd, x_gsub, x_sl, x_part, x_nopart, x_int, x_call, x_lst, x_tup, x_not, x_and, x_or, x_andV, x_orV, x_notV, x_ifE, x_eqI, x_neI, x_eqB, x_neB, x_tbm, x_never, x_make, x_meth, x_isII, x_isIC, x_bool1, decide_eq_true_eq, Bool.false_eq_true, if_false, if_true, List.append_nil, List.nil_append, List.cons_append]
          refine ⟨good_ty g3, by show 3 ≤ sizeLine; decide, fun q hq => ?_⟩
          obtain ⟨xs, e1, lz, g4, k4⟩ := good_app (ns := [(t : Int) - l, (l : Int) - i, (i : Int)]) g3 hq rfl (fun x hx => by
            rcases List.mem_cons.mp hx with rfl | hx
            · exact tl
            · rcases List.mem_cons.mp hx with rfl | hx
              · omega
              · rw [List.mem_singleton.mp hx]; omega) (by omega)
          simp only [List.map_cons, List.map_nil] at e1 g4 k4
          rw [x_append e1 lz]
          exact ⟨k3.trans k4, g4.weak (by omega) (fun _ => trivial), _, rfl⟩
        · rintro σ H' ⟨k3, g3, w6, rfl⟩
          exact ⟨k3, g3.weak (by omega) (fun _ => by omega), _, _, _, rfl⟩
    · rintro σ H' ⟨k2, g2, w4, w5, w6, rfl⟩
      exact ⟨k2, g2.weak (by omega) (fun _ => by omega), _, _, _, _, rfl⟩
  · rintro σ H' ⟨k1, g1, w3, w4, w5, w6, rfl⟩
    simp only [x_if, x_test, x_B, x_op, x_un, x_varS, x_var0, x_c, x_I0, x_I, x_U, x_bl, x_ret, x_next, x_eqS, x_neS, x_m0, x_m1, x_isStr, x_SM, x_addT, x_slS, x_lenS, x_strI, x_mulS, x_startT, x_findT, x_preT, x_lstT, x_ascT, x_digT, x_jn, x_js0, x_js1, x_isS, x_fmt, x_fmtS, x_divW, x_truK, x_truS, x_raiseT, x_asg, x_name, x_set0, x_setS, x_drop, x_cb, x_cons, x_nil, x_int1, x_abs1, x_max2, x_gcd, x_gsub, x_sl, x_part, x_nopart, x_int, x_call, x_lst, x_tup, x_not, x_and, x_or, x_andV, x_orV, x_notV, x_ifE, x_eqI, x_neI, x_eqB, x_neB, x_tbm, x_never, x_make, x_meth, x_isII, x_isIC, x_bool1, decide_eq_true_eq, Bool.false_eq_true, if_false, if_true, List.append_nil, List.nil_append, List.cons_append]
    exact k D H' hD (k1.same hD) (g1.weak (by decide) (fun _ => by decide))
end
end SpX

set_option Elab.async false
set_option linter.all false
set_option maxRecDepth 100000
set_option maxHeartbeats 4000000
/-! Law k26: a ranking drawn. -/
namespace SpX
open PySem PySem.Spec L2 StX RZ
abbrev NoB : Addr → Prop := fun _ => False
theorem noB {H : Hp} : There NoB H := fun _ z => z.elim
def spORank : Sp := fun vs H Q _ => ∃ (P : Addr) (d : Nat), vs = [.ref P, .int d] ∧ PoolB NoB H P ∧ 1 ≤ d ∧ d ≤ 3 ∧ ∀ (D : Addr) (H' : Hp) (rk : List Int), H' D = some (.lst (rk.map V.int)) → D ≠ P → rk.length = d → rk.Perm (rng d) → PoolB NoB H' P → Keep P H H' → Q (.ref D) H'
def t_orank (K : PySem.W.Frag) (C Z BO f_oplace : Addr) (E : XK) : TS :=
    (tSeq (tAsg (tLst tNil) (gName 2))
    (tSeq (tAsg (tCB rListR (tCons (tCB rRangeV (tCons (tVar 1) tNil)) tNil)) (gName 3))
    (tSeq (tFor (iRng1 (tCons (tVar 1) tNil)) (gName 4) ((tSeq (tAsg (tCall spTakeB [] E0 (tCons (tVar 0) (tCons (tCB rLenA (tCons (tVar 3) tNil)) tNil))) (gName 5))
    (tSeq (tDrop (tBM K "list" rAppend (tVar 2) (tCons (tOp rIx1 (tVar 3) (tVar 5)) tNil)))
    (tAsg (tOp rCat (tSl rSlA (tVar 3) tNoPart (tPart (tVar 5))) (tSl rSlA (tVar 3) (tPart (tOp (rI0 fun i j => .int (i + j)) (tVar 5) (tC (.int 1)))) tNoPart)) (gName 3))))))
    (tRet (tVar 2)))))
theorem lst_ne {B : Addr → Prop} {H : Hp} {P q : Addr} (h : PoolB B H P) (hq : H q = none) : q ≠ P := fun e => by
  obtain ⟨xs, hx⟩ := h.there
  rw [e, hx] at hq
  cases hq
theorem cut_mid {ls : List Int} {c : Nat} (h : c < ls.length) : ls.Perm (ls[c] :: (ls.take c ++ ls.drop (c + 1))) := by
  conv => lhs; rw [← List.take_append_drop c ls, List.drop_eq_getElem_cons h]
  exact List.perm_middle
section
variable {K : PySem.W.Frag} {C Z BO f_oplace : Addr}
theorem pure_orank (vs : List V) (H : Hp) (Q : VK) (E : XK) (h : spORank vs H Q E) : t_orank K C Z BO f_oplace E { nx := fun _ H' => Q .non H', rt := Q } (start ["pool", "dimension", "found", "left", "k", "at"] vs) H := by
  obtain ⟨P, d, rfl, hp, d1, d3, k⟩ := h
  show t_orank K C Z BO f_oplace E _ [some (.ref P), some (.int d), none, none, none, none] H
  unfold t_orank
  rw [x_seq]
  simp only [x_if, x_test, x_B, x_op, x_un, x_varS, x_var0, x_c, x_I0, x_I, x_U, x_bl, x_ret, x_next, x_eqS, x_neS, x_m0, x_m1, x_isStr, x_SM, x_addT, x_slS, x_lenS, x_strI, x_mulS, x_startT, x_findT, x_preT, x_lstT, x_ascT, x_digT, x_jn, x_js0, x_js1, x_isS, x_fmt, x_fmtS, x_divW, x_truK, x_truS, x_raiseT, x_asg, x_name, x_set0, x_setS, x_drop, x_cb, x_cons, x_nil, x_int1, x_abs1, x_max2, x_gcd, x_gsub, x_sl, x_part, x_nopart, x_int, x_call, x_lst, x_tup, x_not, x_and, x_or, x_andV, x_orV, x_notV, x_ifE, x_eqI, x_neI, x_eqB, x_neB, x_tbm, x_never, x_make, x_meth, x_isII, x_isIC, x_bool1, decide_eq_true_eq, Bool.false_eq_true, if_false, if_true, List.append_nil, List.nil_append, List.cons_append]
  refine ⟨by decide, fun D hD => ?_⟩
  have nDP := lst_ne hp hD
  have hp1 : PoolB (fun b => NoB b ∨ b = D) (upd H D (.lst [])) P := hp.more hD
  have e1 : (upd H D (.lst [])) D = some (.lst []) := upd_same
  have k1 : Same H (upd H D (.lst [])) := Same.new hD
  generalize (upd H D (.lst [])) = H1 at hp1 e1 k1 ⊢
  try dsimp only
  rw [x_seq]
  simp only [x_if, x_test, x_B, x_op, x_un, x_varS, x_var0, x_c, x_I0, x_I, x_U, x_bl, x_ret, x_next, x_eqS, x_neS, x_m0, x_m1, x_isStr, x_SM, x_addT, x_slS, x_lenS, x_strI, x_mulS, x_startT, x_findT, x_preT, x_lstT, x_ascT, x_digT, x_jn, x_js0, x_js1, x_isS, x_fmt, x_fmtS, x_divW, x_truK, x_truS, x_raiseT, x_asg, x_name, x_set0, x_setS, x_drop, x_cb, x_cons, x_nil, x_int1, x_abs1, x_max2, x_gcd, x_gsub, x_sl, x_part, x_nopart, x_int, x_call, x_lst, x_tup, x_not, x_and, x_or, x_andV, x_orV, x_notV, x_ifE, x_eqI, x_neI, x_eqB, x_neB, x_tbm, x_never, x_make, x_meth, x_isII, x_isIC, x_bool1, decide_eq_true_eq, Bool.false_eq_true, if_false, if_true, List.append_nil, List.nil_append, List.cons_append]
  refine ⟨(d : Int), rfl, fun p2 hp2 => ⟨p2, (d : Int), rfl, upd_same, by omega, by omega, fun L hL => ?_⟩⟩
  have s2 : Same H1 (upd (upd H1 p2 (.rng 0 d)) L (.lst (upTo d))) := Same.new' (Same.new hp2) hL
  have e2 : (upd (upd H1 p2 (.rng 0 d)) L (.lst (upTo d))) L = some (.lst ((rng d).map V.int)) := by rw [upd_same, upTo_rng]
  generalize (upd (upd H1 p2 (.rng 0 d)) L (.lst (upTo d))) = H2 at s2 e2 ⊢
  have nLD : L ≠ D := fun e => by
    have h1 := Same.new hp2 (o := .rng 0 d) D _ e1
    rw [e, h1] at hL
    cases hL
  have big : ∀ n : Nat, n ≤ 1000 → n ≤ sizeLine := fun n hn => Nat.le_trans hn (by decide)
  try dsimp only
  rw [x_seq]
  refine for_rngE (j := (d : Int)) (fun QA => by simp only [x_if, x_test, x_B, x_op, x_un, x_varS, x_var0, x_c, x_I0, x_I, x_U, x_bl, x_ret, x_next, x_eqS, x_neS, x_m0, x_m1, x_isStr, x_SM, x_addT, x_slS, x_lenS, x_strI, x_mulS, x_startT, x_findT, x_preT, x_lstT, x_ascT, x_digT, x_jn, x_js0, x_js1, x_isS, x_fmt, x_fmtS, x_divW, x_truK, x_truS, x_raiseT, x_asg, x_name, x_set0, x_setS, x_drop, x_cb, x_cons, x_nil, x_int1, x_abs1, x_max2, x_gcd, x_gsub, x_sl, x_part, x_nopart, x_int, x_call, x_lst, x_tup, x_not, x_and, x_or, x_andV, x_orV, x_notV, x_ifE, x_eqI, x_neI, x_eqB, x_neB, x_tbm, x_never, x_make, x_meth, x_isII, x_isIC, x_bool1, decide_eq_true_eq, Bool.false_eq_true, if_false, if_true, List.append_nil, List.nil_append, List.cons_append]) (by omega) (fun i σ H' => PoolB (fun b => NoB b ∨ b = D) H' P ∧ (∀ b o, b ≠ P → b ≠ D → H b = some o → H' b = some o) ∧ ∃ (L : Addr) (fs ls : List Int) (w4 w5 : Option V), σ = [some (.ref P), some (.int d), some (.ref D), some (.ref L), w4, w5] ∧ L ≠ D ∧ L ≠ P ∧ H' D = some (.lst (fs.map V.int)) ∧ H' L = some (.lst (ls.map V.int)) ∧ (fs ++ ls).Perm (rng d) ∧ fs.length = i)
    ⟨hp1.same s2, fun b o _ _ e => s2 _ _ (k1 _ _ e), L, [], rng d, none, none, rfl, nLD, fun e => ?_, s2 _ _ e1, e2, .refl _, rfl⟩ ?_ ?_
  · obtain ⟨xs, hx⟩ := hp1.there
    have h1 := Same.new hp2 (o := .rng 0 d) P _ hx
    rw [e, h1] at hL
    cases hL
  · rintro i σ H' hi ⟨hpB, kk, L, fs, ls, w4, w5, rfl, nLD, nLP, hD', hL', perm, lf⟩
    have ll : ls.length = d - i := by
      have := perm.length_eq
      rw [List.length_append] at this
      have e3 : (rng d).length = d := by unfold rng; rw [List.length_map, List.length_range]
      omega
    simp only [x_name, x_setS, x_set0]
    rw [x_seq]
    simp only [x_if, x_test, x_B, x_op, x_un, x_varS, x_var0, x_c, x_I0, x_I, x_U, x_bl, x_ret, x_next, x_eqS, x_neS, x_m0, x_m1, x_isStr, x_SM, x_addT, x_slS, x_lenS, x_strI, x_mulS, x_startT, x_findT, x_preT, x_lstT, x_ascT, x_digT, x_jn, x_js0, x_js1, x_isS, x_fmt, x_fmtS, x_divW, x_truK, x_truS, x_raiseT, x_asg, x_name, x_set0, x_setS, x_drop, x_cb, x_cons, x_nil, x_int1, x_abs1, x_max2, x_gcd, x_gsub, x_sl, x_part, x_nopart, x_int, x_call, x_lst, x_tup, x_not, x_and, x_or, x_andV, x_orV, x_notV, x_ifE, x_eqI, x_neI, x_eqB, x_neB, x_tbm, x_never, x_make, x_meth, x_isII, x_isIC, x_bool1, decide_eq_true_eq, Bool.false_eq_true, if_false, if_true, List.append_nil, List.nil_append, List.cons_append, x_lenA hL', List.length_map]
    refine take_to hpB (fun b hb => ?_) (by omega) (by omega) fun r H3 hp3 k3 r0 r1 => ?_
    · rcases hb with z | z
      · exact z.elim
      · exact ⟨_, by rw [z]; exact hD'⟩
    have r1 := r1 (by omega)
    obtain ⟨c, rfl⟩ := Int.eq_ofNat_of_zero_le r0
    have hc : c < ls.length := by omega
    have hD3 := k3 _ _ nDP hD'
    have hL3 := k3 _ _ nLP hL'
    have ai := atI_nth (ns := ls) (z := (c : Int)) (by omega) (by omega)
    rw [Int.toNat_natCast] at ai
    have ec : ls.getD c 0 = ls[c] := by rw [List.getD_eq_getElem?_getD, List.getElem?_eq_getElem hc]; rfl
    rw [ec] at ai
    try simp only [x_name, x_setS, x_set0]
    rw [x_seq]
    simp only [x_if, x_test, x_B, x_op, x_un, x_varS, x_var0, x_c, x_I0, x_I, x_U, x_bl, x_ret, x_next, x_eqS, x_neS, x_m0, x_m1, x_isStr, x_SM, x_addT, x_slS, x_lenS, x_strI, x_mulS, x_startT, x_findT, x_preT, x_lstT, x_ascT, x_digT, x_jn, x_js0, x_js1, x_isS, x_fmt, x_fmtS, x_divW, x_truK, x_truS, x_raiseT, x_asg, x_name, x_set0, x_setS, x_drop, x_cb, x_cons, x_nil, x_int1, x_abs1, x_max2, x_gcd, x_gsub, x_sl, x_part, x_nopart, x_int, x_call, x_lst, x_tup, x_not, x_and, x_or, x_andV, x_orV, x_notV, x_ifE, x_eqI, x_neI, x_eqB, x_neB, x_tbm, x_never, x_make, x_meth, x_isII, x_isIC, x_bool1, decide_eq_true_eq, Bool.false_eq_true, if_false, if_true, List.append_nil, List.nil_append, List.cons_append, x_ix hL3 ai]
    refine ⟨ty_lst hD3, ?_⟩
    rw [x_append hD3 (by rw [List.length_map]; exact Nat.lt_of_lt_of_le (show fs.length < 1000 by omega) (by decide))]
    have hp4 := hp3.put (o := .lst (fs.map V.int ++ [.int ls[c]])) (.inr rfl) nDP
    have hD4 : (upd H3 D (.lst (fs.map V.int ++ [.int ls[c]]))) D = some (.lst ((fs ++ [ls[c]]).map V.int)) := by rw [upd_same, List.map_append]; rfl
    have hL4 : (upd H3 D (.lst (fs.map V.int ++ [.int ls[c]]))) L = some (.lst (ls.map V.int)) := by rw [upd_ne nLD]; exact hL3
    have k4 : ∀ b o, b ≠ P → b ≠ D → H b = some o → (upd H3 D (.lst (fs.map V.int ++ [.int ls[c]]))) b = some o := fun b o h1 h2 e => by rw [upd_ne h2]; exact k3 _ _ h1 (kk b o h1 h2 e)
    generalize (upd H3 D (.lst (fs.map V.int ++ [.int ls[c]]))) = H4 at hp4 hD4 hL4 k4 ⊢
    try dsimp only
    refine ⟨L, ls.map V.int, rfl, hL4, fun q1 hq1 => ⟨L, ls.map V.int, rfl, Same.new hq1 _ _ hL4, fun q2 hq2 => ?_⟩⟩
    rw [cutV_to _ (by rw [List.length_map]; omega)] at hq2 ⊢
    rw [show ((c : Int) + 1) = ((c + 1 : Nat) : Int) by omega, cutV_from _ (by rw [List.length_map]; omega)]
    have t1 : Same H4 (upd (upd H4 q1 (.lst ((ls.map V.int).take c))) q2 (.lst ((ls.map V.int).drop (c + 1)))) := Same.new' (Same.new hq1) hq2
    have u1 : (upd (upd H4 q1 (.lst ((ls.map V.int).take c))) q2 (.lst ((ls.map V.int).drop (c + 1)))) q1 = some (.lst ((ls.map V.int).take c)) := Same.new hq2 _ _ upd_same
    have u2 : (upd (upd H4 q1 (.lst ((ls.map V.int).take c))) q2 (.lst ((ls.map V.int).drop (c + 1)))) q2 = some (.lst ((ls.map V.int).drop (c + 1))) := upd_same
    generalize (upd (upd H4 q1 (.lst ((ls.map V.int).take c))) q2 (.lst ((ls.map V.int).drop (c + 1)))) = H5 at t1 u1 u2 ⊢
    try dsimp only
    rw [x_cat u1 u2 (by rw [List.length_take, List.length_drop, List.length_map]; exact big _ (by omega))]
    intro q3 hq3
    have s6 : Same H4 (upd H5 q3 (.lst ((ls.map V.int).take c ++ (ls.map V.int).drop (c + 1)))) := Same.new' t1 hq3
    have hp6 := hp4.same s6
    refine ⟨hp6, fun b o h1 h2 e => s6 _ _ (k4 b o h1 h2 e), q3, fs ++ [ls[c]], ls.take c ++ ls.drop (c + 1), _, _, rfl, fun e => ?_, fun e => ?_, s6 _ _ hD4, by rw [upd_same, List.map_append, List.map_take, List.map_drop], ?_, by rw [List.length_append, lf]; rfl⟩
    · rw [e, t1 _ _ hD4] at hq3
      cases hq3
    · obtain ⟨xs, hx⟩ := hp4.there
      rw [e, t1 _ _ hx] at hq3
      cases hq3
    · rw [List.append_assoc]
      exact (List.Perm.append_left fs (cut_mid hc).symm).trans perm
  · rintro σ H' ⟨hpB, kk, L, fs, ls, w4, w5, rfl, nLD, nLP, hD', hL', perm, lf⟩
    rw [Int.toNat_natCast] at lf
    have e3 : (rng d).length = d := by unfold rng; rw [List.length_map, List.length_range]
    have hl0 : ls = [] := by
      have := perm.length_eq
      rw [List.length_append, e3] at this
      exact List.eq_nil_of_length_eq_zero (by omega)
    rw [hl0, List.append_nil] at perm
    simp only [x_if, x_test, x_B, x_op, x_un, x_varS, x_var0, x_c, x_I0, x_I, x_U, x_bl, x_ret, x_next, x_eqS, x_neS, x_m0, x_m1, x_isStr, x_SM, x_addT, x_slS, x_lenS, x_strI, x_mulS, x_startT, x_findT, x_preT, x_lstT, x_ascT, x_digT, x_jn, x_js0, x_js1, x_isS, x_fmt, x_fmtS, x_divW, x_truK, x_truS, x_raiseT, x_asg, x_name, x_set0, x_setS, x_drop, x_cb, x_cons, x_nil, x_int1, x_abs1, x_max2, x_gcd, x_gsub, x_sl, x_part, x_nopart, x_int, x_call, x_lst, x_tup, x_not, x_and, x_or, x_andV, x_orV, x_notV, x_ifE, x_eqI, x_neI, x_eqB, x_neB, x_tbm, x_never, x_make, x_meth, x_isII, x_isIC, x_bool1, decide_eq_true_eq, Bool.false_eq_true, if_false, if_true, List.append_nil, List.nil_append, List.cons_append]
    refine k D H' fs hD' nDP lf perm (hpB.less fun b z => z.elim) fun b o hb e => kk b o hb (fun z => ?_) e
    rw [z, hD] at e
    cases e
end
end SpX

set_option Elab.async false
set_option linter.all false
set_option maxRecDepth 100000
set_option maxHeartbeats 4000000
/-! Law k26: a monomial near another one. -/
namespace SpX
open PySem PySem.Spec L2 StX RZ
def spONear : Sp := fun vs H Q _ => ∃ (P e : Addr) (ns : List Int) (B : Addr → Prop), vs = [.ref P, .ref e] ∧ PoolB B H P ∧ There B H ∧ ExpAt H e ns ∧ 1 ≤ ns.length ∧ ns.length ≤ 3 ∧ (∀ x ∈ ns, 0 ≤ x) ∧
  ∀ (q : Addr) (H' : Hp) (ms : List Int), ExpAt H' q ms → ms.length = ns.length → (∀ x ∈ ms, 0 ≤ x) → PoolB B H' P → Keep P H H' → Q (.ref q) H'
def t_onear_4 (K : PySem.W.Frag) (C Z BO f_oplace : Addr) (E : XK) : TS :=
    (tSeq (tIfS (tOr (tTest (tOp rEq (tCall spTakeB [] E0 (tCons (tVar 0) (tCons (tC (.int 2)) tNil))) (tC (.int 0)))) (tTest (tOp rEq (tOp rIx1 (tVar 3) (tVar 4)) (tC (.int 0))))) (tRet (tOp rIx1 (tVar 2) (tCall spTakeB [] E0 (tCons (tVar 0) (tCons (tCB rLenA (tCons (tVar 2) tNil)) tNil))))) tNext)
    (tSeq (tAsg (tOp (rI0 fun i j => .int (i - j)) (tOp rIx1 (tVar 3) (tVar 4)) (tC (.int 1))) (gSub (tVar 3) (tVar 4) rSetL))
    (tSeq (tAsg (tOp (rI0 fun i j => .int (i + j)) (tOp rIx1 (tVar 3) (tVar 5)) (tC (.int 1))) (gSub (tVar 3) (tVar 5) rSetL))
    (tRet (tCB rTupA (tCons (tVar 3) tNil))))))
def t_onear (K : PySem.W.Frag) (C Z BO f_oplace : Addr) (E : XK) : TS :=
    (tSeq (tAsg (tCall spOMons [] E0 (tCons (tCB rLenA (tCons (tVar 1) tNil)) (tCons (tC (.int 8)) tNil))) (gName 2))
    (tSeq (tAsg (tCB rListA (tCons (tVar 1) tNil)) (gName 3))
    (tSeq (tAsg (tCall spTakeB [] E0 (tCons (tVar 0) (tCons (tCB rLenA (tCons (tVar 1) tNil)) tNil))) (gName 4))
    (tSeq (tAsg (tCall spTakeB [] E0 (tCons (tVar 0) (tCons (tCB rLenA (tCons (tVar 1) tNil)) tNil))) (gName 5))
    (tSeq (tIfS (tOr (tTest (tOp rEq (tCall spTakeB [] E0 (tCons (tVar 0) (tCons (tC (.int 2)) tNil))) (tC (.int 0)))) (tTest (tOp rEq (tOp rIx1 (tVar 3) (tVar 4)) (tC (.int 0))))) (tRet (tOp rIx1 (tVar 2) (tCall spTakeB [] E0 (tCons (tVar 0) (tCons (tCB rLenA (tCons (tVar 2) tNil)) tNil))))) tNext)
    (tSeq (tAsg (tOp (rI0 fun i j => .int (i - j)) (tOp rIx1 (tVar 3) (tVar 4)) (tC (.int 1))) (gSub (tVar 3) (tVar 4) rSetL))
    (tSeq (tAsg (tOp (rI0 fun i j => .int (i + j)) (tOp rIx1 (tVar 3) (tVar 5)) (tC (.int 1))) (gSub (tVar 3) (tVar 5) rSetL))
    (tRet (tCB rTupA (tCons (tVar 3) tNil))))))))))
theorem exp_keep {B : Addr → Prop} {H H' : Hp} {P e : Addr} {ns : List Int} (h : ExpAt H e ns) (hp : PoolB B H P) (k : Keep P H H') : ExpAt H' e ns := k _ _ (fun z => by
  obtain ⟨xs, hx⟩ := hp.there
  rw [z, ExpAt, hx] at h
  cases h) h
theorem rows_keep {B : Addr → Prop} {H H' : Hp} {P : Addr} {es : List Addr} {nss : List (List Int)} (h : RowsAt H es nss) (hp : PoolB B H P) (k : Keep P H H') : RowsAt H' es nss := ⟨h.1, fun i q ns a b => exp_keep (h.2 i q ns a b) hp k⟩
theorem good_keep {B : Addr → Prop} {H H' : Hp} {P D : Addr} {d n : Nat} {ne : Prop} (h : GoodL H D d n ne) (hp : PoolB B H P) (nd : D ≠ P) (k : Keep P H H') : GoodL H' D d n ne := by
  obtain ⟨es, nss, a, b, c⟩ := h
  exact ⟨es, nss, k _ _ nd a, rows_keep b hp k, c⟩
theorem ixN_of {n c : Nat} (h : c < n) : L2.ixN n (c : Int) = some c := by
  unfold L2.ixN
  simp
  omega
theorem get_nn {ns : List Int} (h : ∀ x ∈ ns, 0 ≤ x) (c : Nat) : 0 ≤ ns.getD c 0 := by
  rw [List.getD_eq_getElem?_getD]
  cases e : ns[c]? with
  | none => exact Int.le_refl 0
  | some x => exact h x (List.mem_of_getElem? e)
theorem mem_set {ns : List Int} {c : Nat} {v x : Int} (h : ∀ x ∈ ns, 0 ≤ x) (hv : 0 ≤ v) (hx : x ∈ ns.set c v) : 0 ≤ x := by
  rcases List.mem_or_eq_of_mem_set hx with h1 | h1
  · exact h x h1
  · rw [h1]; exact hv
section
variable {K : PySem.W.Frag} {C Z BO f_oplace : Addr}
theorem pure_onear (vs : List V) (H : Hp) (Q : VK) (E : XK) (h : spONear vs H Q E) : t_onear K C Z BO f_oplace E { nx := fun _ H' => Q .non H', rt := Q } (start ["pool", "before", "places", "moved", "lower", "higher"] vs) H := by
  obtain ⟨P, e, ns, B, rfl, hp, hB, he, l1, l3, h0, k⟩ := h
  show t_onear K C Z BO f_oplace E _ [some (.ref P), some (.ref e), none, none, none, none] H
  unfold t_onear
  rw [x_seq]
  simp only [x_if, x_test, x_B, x_op, x_un, x_varS, x_var0, x_c, x_I0, x_I, x_U, x_bl, x_ret, x_next, x_eqS, x_neS, x_m0, x_m1, x_isStr, x_SM, x_addT, x_slS, x_lenS, x_strI, x_mulS, x_startT, x_findT, x_preT, x_lstT, x_ascT, x_digT, x_jn, x_js0, x_js1, x_isS, x_fmt, x_fmtS, x_divW, x_truK, x_truS, x_raiseT, x_asg, x_name, x_set0, x_setS, x_drop, x_cb, x_cons, x_nil, x_int1, x_abs1, x_max2, x_gcd, x_gsub, x_sl, x_part, x_nopart, x_int, x_call, x_lst, x_tup, x_not, x_and, x_or, x_andV, x_orV, x_notV, x_ifE, x_eqI, x_neI, x_eqB, x_neB, x_tbm, x_never, x_make, x_meth, x_isII, x_isIC, x_bool1, decide_eq_true_eq, Bool.false_eq_true, if_false, if_true, List.append_nil, List.nil_append, List.cons_append, x_lenT he, List.length_map]
  refine ⟨ns.length, rfl, l1, l3, fun D H1 hD s1 g1 => ?_⟩
  have nDP := lst_ne hp hD
  have hp1 := hp.same s1
  have hB1 : There B H1 := fun b hb => by
    obtain ⟨o, ho⟩ := hB b hb
    exact ⟨o, s1 _ _ ho⟩
  have he1 := s1 _ _ he
  try dsimp only
  rw [x_seq]
  simp only [x_if, x_test, x_B, x_op, x_un, x_varS, x_var0, x_c, x_I0, x_I, x_U, x_bl, x_ret, x_next, x_eqS, x_neS, x_m0, x_m1, x_isStr, x_SM, x_addT, x_slS, x_lenS, x_strI, x_mulS, x_startT, x_findT, x_preT, x_lstT, x_ascT, x_digT, x_jn, x_js0, x_js1, x_isS, x_fmt, x_fmtS, x_divW, x_truK, x_truS, x_raiseT, x_asg, x_name, x_set0, x_setS, x_drop, x_cb, x_cons, x_nil, x_int1, x_abs1, x_max2, x_gcd, x_gsub, x_sl, x_part, x_nopart, x_int, x_call, x_lst, x_tup, x_not, x_and, x_or, x_andV, x_orV, x_notV, x_ifE, x_eqI, x_neI, x_eqB, x_neB, x_tbm, x_never, x_make, x_meth, x_isII, x_isIC, x_bool1, decide_eq_true_eq, Bool.false_eq_true, if_false, if_true, List.append_nil, List.nil_append, List.cons_append]
  refine ⟨e, ns.map V.int, rfl, .inr he1, fun M hM => ?_⟩
  have nMP := lst_ne hp1 hM
  have s2 : Same H1 (upd H1 M (.lst (ns.map V.int))) := Same.new hM
  have hM2 : (upd H1 M (.lst (ns.map V.int))) M = some (.lst (ns.map V.int)) := upd_same
  have hpM : PoolB (fun b => B b ∨ b = M) (upd H1 M (.lst (ns.map V.int))) P := hp1.more hM
  have g2 : GoodL (upd H1 M (.lst (ns.map V.int))) D ns.length 900 True := by
    obtain ⟨es, nss, a, b, c, f, ne⟩ := g1
    exact ⟨es, nss, s2 _ _ a, b.same s2, c, f, ne⟩
  generalize (upd H1 M (.lst (ns.map V.int))) = H2 at s2 hM2 hpM g2 ⊢
  have s12 := s1.trans s2
  have he2 := s12 _ _ he
  have hB2 : ∀ {H' : Hp}, Keep P H2 H' → PoolB (fun b => B b ∨ b = M) H' P → There (fun b => B b ∨ b = M) H' := fun {H'} kp hpp b hb => by
    by_cases hbP : b = P
    · obtain ⟨xs, hx⟩ := hpp.there
      exact ⟨_, by rw [hbP]; exact hx⟩
    rcases hb with z | z
    · obtain ⟨o, ho⟩ := hB b z
      exact ⟨o, kp _ _ hbP (s12 _ _ ho)⟩
    · exact ⟨_, by rw [z]; exact kp _ _ nMP hM2⟩
  try dsimp only
  rw [x_seq]
  simp only [x_if, x_test, x_B, x_op, x_un, x_varS, x_var0, x_c, x_I0, x_I, x_U, x_bl, x_ret, x_next, x_eqS, x_neS, x_m0, x_m1, x_isStr, x_SM, x_addT, x_slS, x_lenS, x_strI, x_mulS, x_startT, x_findT, x_preT, x_lstT, x_ascT, x_digT, x_jn, x_js0, x_js1, x_isS, x_fmt, x_fmtS, x_divW, x_truK, x_truS, x_raiseT, x_asg, x_name, x_set0, x_setS, x_drop, x_cb, x_cons, x_nil, x_int1, x_abs1, x_max2, x_gcd, x_gsub, x_sl, x_part, x_nopart, x_int, x_call, x_lst, x_tup, x_not, x_and, x_or, x_andV, x_orV, x_notV, x_ifE, x_eqI, x_neI, x_eqB, x_neB, x_tbm, x_never, x_make, x_meth, x_isII, x_isIC, x_bool1, decide_eq_true_eq, Bool.false_eq_true, if_false, if_true, List.append_nil, List.nil_append, List.cons_append, x_lenT he2, List.length_map]
  refine take_to hpM (hB2 (Keep.refl _ _) hpM) (by omega) (by omega) fun lo H3 hp3 k3 lo0 lo1 => ?_
  have lo1 := lo1 (by omega)
  have he3 := exp_keep he2 hpM k3
  try simp only [x_name, x_setS, x_set0]
  try rw [x_seq]
  simp only [x_if, x_test, x_B, x_op, x_un, x_varS, x_var0, x_c, x_I0, x_I, x_U, x_bl, x_ret, x_next, x_eqS, x_neS, x_m0, x_m1, x_isStr, x_SM, x_addT, x_slS, x_lenS, x_strI, x_mulS, x_startT, x_findT, x_preT, x_lstT, x_ascT, x_digT, x_jn, x_js0, x_js1, x_isS, x_fmt, x_fmtS, x_divW, x_truK, x_truS, x_raiseT, x_asg, x_name, x_set0, x_setS, x_drop, x_cb, x_cons, x_nil, x_int1, x_abs1, x_max2, x_gcd, x_gsub, x_sl, x_part, x_nopart, x_int, x_call, x_lst, x_tup, x_not, x_and, x_or, x_andV, x_orV, x_notV, x_ifE, x_eqI, x_neI, x_eqB, x_neB, x_tbm, x_never, x_make, x_meth, x_isII, x_isIC, x_bool1, decide_eq_true_eq, Bool.false_eq_true, if_false, if_true, List.append_nil, List.nil_append, List.cons_append, x_lenT he3, List.length_map]
  refine take_to hp3 (hB2 k3 hp3) (by omega) (by omega) fun hi H4 hp4 k4 hi0 hi1 => ?_
  have hi1 := hi1 (by omega)
  have k24 := k3.trans k4
  have hM4 := k24 _ _ nMP hM2
  have g4 := good_keep g2 hpM nDP k24
  show t_onear_4 K C Z BO f_oplace E _ [some (.ref P), some (.ref e), some (.ref D), some (.ref M), some (.int lo), some (.int hi)] H4
  have kh : ∀ {H' : Hp}, Keep P H2 H' → Keep P H H' := fun {H'} kp b o hb eb => kp b o hb (s12 _ _ eb)
  obtain ⟨c, rfl⟩ := Int.eq_ofNat_of_zero_le lo0
  obtain ⟨c', rfl⟩ := Int.eq_ofNat_of_zero_le hi0
  have ai : ∀ (zs : List Int) (j : Nat), j < zs.length → atI (zs.map V.int) (j : Int) = some (.int (zs.getD j 0)) := fun zs j hj => by
    have := atI_nth (ns := zs) (z := (j : Int)) (by omega) (by omega)
    rwa [Int.toNat_natCast] at this
  unfold t_onear_4
  rw [x_seq]
  have ret : ∀ H', PoolB (fun b => B b ∨ b = M) H' P → Keep P H2 H' → (rLenA [.ref D] H' fun x H1 => spTakeB [.ref P, x] H1 (fun y H2 => rIx1 (.ref D) y H2 Q) E0) := by
    intro H' hp' k'
    obtain ⟨es, nss, a, b, f, ln, ne⟩ := good_keep g2 hpM nDP k'
    have ne := ne trivial
    simp only [x_lenA a, List.length_map]
    refine take_to hp' (hB2 k' hp') (by omega) (by omega) fun r H5 hp5 k5 r0 r1 => ?_
    have r1 := r1 (by omega)
    obtain ⟨j, rfl⟩ := Int.eq_ofNat_of_zero_le r0
    have hj : j < es.length := by omega
    have a5 := k5 _ _ nDP a
    have b5 := rows_keep b hp' k5
    have he : atI (es.map V.ref) (j : Int) = some (.ref es[j]) := atI_nat (by rw [List.getElem?_map, List.getElem?_eq_getElem hj]; rfl)
    have hl := b.1
    have hn : nss[j]? = some nss[j] := List.getElem?_eq_getElem (by omega)
    simp only [x_ix a5 he]
    have fm := f nss[j] (List.getElem_mem _)
    exact k es[j] H5 nss[j] (b5.2 j es[j] nss[j] (List.getElem?_eq_getElem hj) hn) fm.1 fm.2 (hp5.less fun b z => .inl z) (kh (k'.trans k5))
  simp only [x_if, x_test, x_B, x_op, x_un, x_varS, x_var0, x_c, x_I0, x_I, x_U, x_bl, x_ret, x_next, x_eqS, x_neS, x_m0, x_m1, x_isStr, x_SM, x_addT, x_slS, x_lenS, x_strI, x_mulS, x_startT, x_findT, x_preT, x_lstT, x_ascT, x_digT, x_jn, x_js0, x_js1, x_isS, x_fmt, x_fmtS, x_divW, x_truK, x_truS, x_raiseT, x_asg, x_name, x_set0, x_setS, x_drop, x_cb, x_cons, x_nil, x_int1, x_abs1, x_max2, x_gcd, x_gsub, x_sl, x_part, x_nopart, x_int, x_call, x_lst, x_tup, x_not, x_and, x_or, x_andV, x_orV, x_notV, x_ifE, x_eqI, x_neI, x_eqB, x_neB, x_tbm, x_never, x_make, x_meth, x_isII, x_isIC, x_bool1, decide_eq_true_eq, Bool.false_eq_true, if_false, if_true, List.append_nil, List.nil_append, List.cons_append]
  refine take_to hp4 (hB2 k24 hp4) (by omega) (by omega) fun r H5 hp5 k5 r0 r1 => ?_
  have k25 := k24.trans k5
  have hM5 := k5 _ _ nMP hM4
  simp only [x_if, x_test, x_B, x_op, x_un, x_varS, x_var0, x_c, x_I0, x_I, x_U, x_bl, x_ret, x_next, x_eqS, x_neS, x_m0, x_m1, x_isStr, x_SM, x_addT, x_slS, x_lenS, x_strI, x_mulS, x_startT, x_findT, x_preT, x_lstT, x_ascT, x_digT, x_jn, x_js0, x_js1, x_isS, x_fmt, x_fmtS, x_divW, x_truK, x_truS, x_raiseT, x_asg, x_name, x_set0, x_setS, x_drop, x_cb, x_cons, x_nil, x_int1, x_abs1, x_max2, x_gcd, x_gsub, x_sl, x_part, x_nopart, x_int, x_call, x_lst, x_tup, x_not, x_and, x_or, x_andV, x_orV, x_notV, x_ifE, x_eqI, x_neI, x_eqB, x_neB, x_tbm, x_never, x_make, x_meth, x_isII, x_isIC, x_bool1, decide_eq_true_eq, Bool.false_eq_true, if_false, if_true, List.append_nil, List.nil_append, List.cons_append, x_ix hM5 (ai ns c (by omega))]
  refine ite2 (fun _ => ret H5 hp5 k25) fun _ => ite2 (fun _ => ret H5 hp5 k25) fun hz => ?_
  rw [x_seq]
  simp only [x_if, x_test, x_B, x_op, x_un, x_varS, x_var0, x_c, x_I0, x_I, x_U, x_bl, x_ret, x_next, x_eqS, x_neS, x_m0, x_m1, x_isStr, x_SM, x_addT, x_slS, x_lenS, x_strI, x_mulS, x_startT, x_findT, x_preT, x_lstT, x_ascT, x_digT, x_jn, x_js0, x_js1, x_isS, x_fmt, x_fmtS, x_divW, x_truK, x_truS, x_raiseT, x_asg, x_name, x_set0, x_setS, x_drop, x_cb, x_cons, x_nil, x_int1, x_abs1, x_max2, x_gcd, x_gsub, x_sl, x_part, x_nopart, x_int, x_call, x_lst, x_tup, x_not, x_and, x_or, x_andV, x_orV, x_notV, x_ifE, x_eqI, x_neI, x_eqB, x_neB, x_tbm, x_never, x_make, x_meth, x_isII, x_isIC, x_bool1, decide_eq_true_eq, Bool.false_eq_true, if_false, if_true, List.append_nil, List.nil_append, List.cons_append, x_ix hM5 (ai ns c (by omega)), x_setL hM5 (ixN_of (show c < (ns.map V.int).length by rw [List.length_map]; omega))]
  have es1 : (ns.map V.int).set c (.int (ns.getD c 0 - 1)) = (ns.set c (ns.getD c 0 - 1)).map V.int := by rw [List.map_set]
  rw [es1]
  have p6 : PoolB (fun b => B b ∨ b = M) (upd H5 M (.lst ((ns.set c (ns.getD c 0 - 1)).map V.int))) P := hp5.put (.inr rfl) nMP
  have hM6 : (upd H5 M (.lst ((ns.set c (ns.getD c 0 - 1)).map V.int))) M = some (.lst ((ns.set c (ns.getD c 0 - 1)).map V.int)) := upd_same
  have hMH : H M = none := by
    cases e0 : H M with
    | none => rfl
    | some o =>
      rw [s1 _ _ e0] at hM
      cases hM
  have k6 : Keep P H (upd H5 M (.lst ((ns.set c (ns.getD c 0 - 1)).map V.int))) := fun b o hb eb => by
    rw [upd_ne (fun z => by rw [z, hMH] at eb; cases eb)]
    exact kh k25 b o hb eb
  have n6 : ∀ x ∈ ns.set c (ns.getD c 0 - 1), 0 ≤ x := fun x hx => mem_set h0 (by have := get_nn h0 c; omega) hx
  have l6 : (ns.set c (ns.getD c 0 - 1)).length = ns.length := List.length_set
  generalize (upd H5 M (.lst ((ns.set c (ns.getD c 0 - 1)).map V.int))) = H6 at p6 hM6 k6 ⊢
  generalize ns.set c (ns.getD c 0 - 1) = ms at hM6 n6 l6 ⊢
  try rw [x_seq]
  simp only [x_if, x_test, x_B, x_op, x_un, x_varS, x_var0, x_c, x_I0, x_I, x_U, x_bl, x_ret, x_next, x_eqS, x_neS, x_m0, x_m1, x_isStr, x_SM, x_addT, x_slS, x_lenS, x_strI, x_mulS, x_startT, x_findT, x_preT, x_lstT, x_ascT, x_digT, x_jn, x_js0, x_js1, x_isS, x_fmt, x_fmtS, x_divW, x_truK, x_truS, x_raiseT, x_asg, x_name, x_set0, x_setS, x_drop, x_cb, x_cons, x_nil, x_int1, x_abs1, x_max2, x_gcd, x_gsub, x_sl, x_part, x_nopart, x_int, x_call, x_lst, x_tup, x_not, x_and, x_or, x_andV, x_orV, x_notV, x_ifE, x_eqI, x_neI, x_eqB, x_neB, x_tbm, x_never, x_make, x_meth, x_isII, x_isIC, x_bool1, decide_eq_true_eq, Bool.false_eq_true, if_false, if_true, List.append_nil, List.nil_append, List.cons_append, x_ix hM6 (ai ms c' (by omega)), x_setL hM6 (ixN_of (show c' < (ms.map V.int).length by rw [List.length_map]; omega))]
  have es2 : (ms.map V.int).set c' (.int (ms.getD c' 0 + 1)) = (ms.set c' (ms.getD c' 0 + 1)).map V.int := by rw [List.map_set]
  rw [es2]
  have p7 : PoolB (fun b => B b ∨ b = M) (upd H6 M (.lst ((ms.set c' (ms.getD c' 0 + 1)).map V.int))) P := p6.put (.inr rfl) nMP
  refine ⟨M, (ms.set c' (ms.getD c' 0 + 1)).map V.int, rfl, .inl ⟨upd_same, fun q hq => ?_⟩⟩
  refine k q _ _ upd_same (by rw [List.length_set, l6]) (fun x hx => mem_set n6 (by have := get_nn n6 c'; omega) hx) ((p7.same (Same.new hq)).less fun b z => .inl z) fun b o hb eb => ?_
  refine Same.new hq _ _ ?_
  rw [upd_ne (fun z => by rw [z, hMH] at eb; cases eb)]
  exact k6 b o hb eb
end
end SpX

set_option Elab.async false
set_option linter.all false
set_option maxRecDepth 100000
set_option maxHeartbeats 4000000
/-! Law k26: a word drawn. -/
namespace SpX
open PySem PySem.Spec L2 StX RZ
open TL (tl)
theorem x_ixS {z : Str} {i : Int} {c : Nat} {H : Hp} {Q : VK} (hz : z.length ≤ sizeLine) (h : atI (tl z) i = some c) : rIxS (.str z) (.int i) H Q = Q (.str ⟨#[c]⟩) H := propext (Iff.intro
  (fun ⟨_, _, _, e1, e2, _, h2, q⟩ => by
    cases e1; cases e2
    rw [show atI _ i = some c from h] at h2
    cases h2
    exact q)
  (fun q => ⟨_, _, _, rfl, rfl, hz, h, q⟩))
theorem atI_len {l : List Nat} {i : Int} (h0 : 0 ≤ i) (h1 : i < (l.length : Int)) : ∃ c, atI l i = some c := by
  obtain ⟨n, rfl⟩ := Int.eq_ofNat_of_zero_le h0
  have hn : n < l.length := by omega
  exact ⟨l[n], atI_nat (List.getElem?_eq_getElem hn)⟩
theorem one_len (c : Nat) : (⟨#[c]⟩ : Str).length = 1 := rfl
theorem add_len (x y : Str) : (x ++ y).length = x.length + y.length := by
  rw [tl_len, tl_len, tl_len, TL.tl_append, List.length_append]
theorem cut_len (x : Str) (lo hi : Option Int) : (cutS x lo hi).length ≤ x.length := cutS_length x lo hi
def spOWord : Sp := fun vs H Q _ => ∃ P : Addr, vs = [.ref P] ∧ PoolB NoB H P ∧ ∀ (y : Str) (H' : Hp), y.length ≤ 100 → PoolB NoB H' P → Keep P H H' → Q (.str y) H'
def t_oword_2 (K : PySem.W.Frag) (C Z BO f_oplace : Addr) (E : XK) : TS :=
    (tSeq (tAsg (tCall spTakeB [] E0 (tCons (tVar 0) (tCons (tC (.int 4)) tNil))) (gName 3))
    (tSeq (tAsg (tCall spTakeB [] E0 (tCons (tVar 0) (tCons (tOp (rI0 fun i j => .int (i + j)) (tCB rLenT (tCons (tVar 1) tNil)) (tC (.int 1))) tNil))) (gName 4))
    (tSeq (tAsg (tOp rIxS (tVar 2) (tCall spTakeB [] E0 (tCons (tVar 0) (tCons (tC (.int 28)) tNil)))) (gName 5))
    (tSeq (tIfS (tTest (tOp rEq (tVar 3) (tC (.int 1)))) (tAsg (tOp rAddT (tOp rAddT (tSl rSlS (tVar 1) tNoPart (tPart (tVar 4))) (tVar 5)) (tSl rSlS (tVar 1) (tPart (tOp (rI0 fun i j => .int (i + j)) (tVar 4) (tC (.int 1)))) tNoPart)) (gName 1)) tNext)
    (tSeq (tIfS (tTest (tOp rEq (tVar 3) (tC (.int 2)))) (tAsg (tOp rAddT (tOp rAddT (tSl rSlS (tVar 1) tNoPart (tPart (tVar 4))) (tVar 5)) (tSl rSlS (tVar 1) (tPart (tVar 4)) tNoPart)) (gName 1)) tNext)
    (tSeq (tIfS (tTest (tOp rEq (tVar 3) (tC (.int 3)))) (tAsg (tSl rSlS (tVar 1) tNoPart (tPart (tVar 4))) (gName 1)) tNext)
    (tRet (tVar 1))))))))
def t_oword (K : PySem.W.Frag) (C Z BO f_oplace : Addr) (E : XK) : TS :=
    (tSeq (tAsg (tOp rIx1 (tLst (tCons (tC (.str "degree")) (tCons (tC (.str "variables")) tNil))) (tCall spTakeB [] E0 (tCons (tVar 0) (tCons (tC (.int 2)) tNil)))) (gName 1))
    (tSeq (tAsg (tC (.str "abcdefghijklmnopqrstuvwxyz D")) (gName 2))
    (tSeq (tAsg (tCall spTakeB [] E0 (tCons (tVar 0) (tCons (tC (.int 4)) tNil))) (gName 3))
    (tSeq (tAsg (tCall spTakeB [] E0 (tCons (tVar 0) (tCons (tOp (rI0 fun i j => .int (i + j)) (tCB rLenT (tCons (tVar 1) tNil)) (tC (.int 1))) tNil))) (gName 4))
    (tSeq (tAsg (tOp rIxS (tVar 2) (tCall spTakeB [] E0 (tCons (tVar 0) (tCons (tC (.int 28)) tNil)))) (gName 5))
    (tSeq (tIfS (tTest (tOp rEq (tVar 3) (tC (.int 1)))) (tAsg (tOp rAddT (tOp rAddT (tSl rSlS (tVar 1) tNoPart (tPart (tVar 4))) (tVar 5)) (tSl rSlS (tVar 1) (tPart (tOp (rI0 fun i j => .int (i + j)) (tVar 4) (tC (.int 1)))) tNoPart)) (gName 1)) tNext)
    (tSeq (tIfS (tTest (tOp rEq (tVar 3) (tC (.int 2)))) (tAsg (tOp rAddT (tOp rAddT (tSl rSlS (tVar 1) tNoPart (tPart (tVar 4))) (tVar 5)) (tSl rSlS (tVar 1) (tPart (tVar 4)) tNoPart)) (gName 1)) tNext)
    (tSeq (tIfS (tTest (tOp rEq (tVar 3) (tC (.int 3)))) (tAsg (tSl rSlS (tVar 1) tNoPart (tPart (tVar 4))) (gName 1)) tNext)
    (tRet (tVar 1))))))))))
section
variable {K : PySem.W.Frag} {C Z BO f_oplace : Addr}
theorem oword_2 {P : Addr} {H : Hp} {Q : VK} {E : XK} {W : Str} (hp : PoolB NoB H P) (hW : W.length ≤ 12) (k : ∀ (y : Str) (H' : Hp), y.length ≤ 100 → PoolB NoB H' P → Keep P H H' → Q (.str y) H') :
    t_oword_2 K C Z BO f_oplace E { nx := fun _ H' => Q .non H', rt := Q } [some (.ref P), some (.str W), some (.str "abcdefghijklmnopqrstuvwxyz D"), none, none, none] H := by
  have hl : ((tl "abcdefghijklmnopqrstuvwxyz D").length : Int) = 28 := by decide +kernel
  have hs : ("abcdefghijklmnopqrstuvwxyz D" : Str).length ≤ sizeLine := by decide +kernel
  generalize ("abcdefghijklmnopqrstuvwxyz D" : Str) = M at hl hs ⊢
  have big : ∀ n : Nat, n ≤ 1000 → n ≤ sizeLine := fun n hn => Nat.le_trans hn (by decide)
  unfold t_oword_2
  rw [x_seq]
  simp only [x_if, x_test, x_B, x_op, x_un, x_varS, x_var0, x_c, x_I0, x_I, x_U, x_bl, x_ret, x_next, x_eqS, x_neS, x_m0, x_m1, x_isStr, x_SM, x_addT, x_slS, x_lenS, x_strI, x_mulS, x_startT, x_findT, x_preT, x_lstT, x_ascT, x_digT, x_jn, x_js0, x_js1, x_isS, x_fmt, x_fmtS, x_divW, x_truK, x_truS, x_raiseT, x_asg, x_name, x_set0, x_setS, x_drop, x_cb, x_cons, x_nil, x_int1, x_abs1, x_max2, x_gcd, x_gsub, x_sl, x_part, x_nopart, x_int, x_call, x_lst, x_tup, x_not, x_and, x_or, x_andV, x_orV, x_notV, x_ifE, x_eqI, x_neI, x_eqB, x_neB, x_tbm, x_never, x_make, x_meth, x_isII, x_isIC, x_bool1, decide_eq_true_eq, Bool.false_eq_true, if_false, if_true, List.append_nil, List.nil_append, List.cons_append]
  refine take_to hp noB (by decide) (by decide) fun way H1 hp1 k1 _ _ => ?_
  try dsimp only
  try rw [x_seq]
  simp only [x_if, x_test, x_B, x_op, x_un, x_varS, x_var0, x_c, x_I0, x_I, x_U, x_bl, x_ret, x_next, x_eqS, x_neS, x_m0, x_m1, x_isStr, x_SM, x_addT, x_slS, x_lenS, x_strI, x_mulS, x_startT, x_findT, x_preT, x_lstT, x_ascT, x_digT, x_jn, x_js0, x_js1, x_isS, x_fmt, x_fmtS, x_divW, x_truK, x_truS, x_raiseT, x_asg, x_name, x_set0, x_setS, x_drop, x_cb, x_cons, x_nil, x_int1, x_abs1, x_max2, x_gcd, x_gsub, x_sl, x_part, x_nopart, x_int, x_call, x_lst, x_tup, x_not, x_and, x_or, x_andV, x_orV, x_notV, x_ifE, x_eqI, x_neI, x_eqB, x_neB, x_tbm, x_never, x_make, x_meth, x_isII, x_isIC, x_bool1, decide_eq_true_eq, Bool.false_eq_true, if_false, if_true, List.append_nil, List.nil_append, List.cons_append]
  refine ⟨big _ (by omega), take_to hp1 noB (by omega) (by omega) fun at0' H2 hp2 k2 _ _ => ?_⟩
  try dsimp only
  try rw [x_seq]
  simp only [x_if, x_test, x_B, x_op, x_un, x_varS, x_var0, x_c, x_I0, x_I, x_U, x_bl, x_ret, x_next, x_eqS, x_neS, x_m0, x_m1, x_isStr, x_SM, x_addT, x_slS, x_lenS, x_strI, x_mulS, x_startT, x_findT, x_preT, x_lstT, x_ascT, x_digT, x_jn, x_js0, x_js1, x_isS, x_fmt, x_fmtS, x_divW, x_truK, x_truS, x_raiseT, x_asg, x_name, x_set0, x_setS, x_drop, x_cb, x_cons, x_nil, x_int1, x_abs1, x_max2, x_gcd, x_gsub, x_sl, x_part, x_nopart, x_int, x_call, x_lst, x_tup, x_not, x_and, x_or, x_andV, x_orV, x_notV, x_ifE, x_eqI, x_neI, x_eqB, x_neB, x_tbm, x_never, x_make, x_meth, x_isII, x_isIC, x_bool1, decide_eq_true_eq, Bool.false_eq_true, if_false, if_true, List.append_nil, List.nil_append, List.cons_append]
  refine take_to hp2 noB (by decide) (by decide) fun r H3 hp3 k3 r0 r1 => ?_
  have r1 := r1 (by decide)
  obtain ⟨c, hc⟩ := atI_len (l := tl M) (i := r) r0 (by omega)
  simp only [x_ixS hs hc]
  have one := one_len c
  generalize (⟨#[c]⟩ : Str) = L at one ⊢
  have kk := (k1.trans k2).trans k3
  have c1 := cut_len W none (some at0')
  have c2 := cut_len W (some (at0' + 1)) none
  have c3 := cut_len W (some at0') none
  try rw [x_seq]
  simp only [x_if, x_test, x_B, x_op, x_un, x_varS, x_var0, x_c, x_I0, x_I, x_U, x_bl, x_ret, x_next, x_eqS, x_neS, x_m0, x_m1, x_isStr, x_SM, x_addT, x_slS, x_lenS, x_strI, x_mulS, x_startT, x_findT, x_preT, x_lstT, x_ascT, x_digT, x_jn, x_js0, x_js1, x_isS, x_fmt, x_fmtS, x_divW, x_truK, x_truS, x_raiseT, x_asg, x_name, x_set0, x_setS, x_drop, x_cb, x_cons, x_nil, x_int1, x_abs1, x_max2, x_gcd, x_gsub, x_sl, x_part, x_nopart, x_int, x_call, x_lst, x_tup, x_not, x_and, x_or, x_andV, x_orV, x_notV, x_ifE, x_eqI, x_neI, x_eqB, x_neB, x_tbm, x_never, x_make, x_meth, x_isII, x_isIC, x_bool1, decide_eq_true_eq, Bool.false_eq_true, if_false, if_true, List.append_nil, List.nil_append, List.cons_append]
  have fin3 : ∀ V' : Str, V'.length ≤ 60 → tSeq (tIfS (tTest (tOp rEq (tVar 3) (tC (V.int 3)))) (tAsg (tSl rSlS (tVar 1) tNoPart (tPart (tVar 4))) (gName 1)) tNext) (tRet (tVar 1)) { nx := fun x H' => Q V.non H', rt := Q } [some (.ref P), some (.str V'), some (.str M), some (.int way), some (.int at0'), some (.str L)] H3 := fun V' hv => by
    rw [x_seq]
    simp only [x_if, x_test, x_B, x_op, x_un, x_varS, x_var0, x_c, x_I0, x_I, x_U, x_bl, x_ret, x_next, x_eqS, x_neS, x_m0, x_m1, x_isStr, x_SM, x_addT, x_slS, x_lenS, x_strI, x_mulS, x_startT, x_findT, x_preT, x_lstT, x_ascT, x_digT, x_jn, x_js0, x_js1, x_isS, x_fmt, x_fmtS, x_divW, x_truK, x_truS, x_raiseT, x_asg, x_name, x_set0, x_setS, x_drop, x_cb, x_cons, x_nil, x_int1, x_abs1, x_max2, x_gcd, x_gsub, x_sl, x_part, x_nopart, x_int, x_call, x_lst, x_tup, x_not, x_and, x_or, x_andV, x_orV, x_notV, x_ifE, x_eqI, x_neI, x_eqB, x_neB, x_tbm, x_never, x_make, x_meth, x_isII, x_isIC, x_bool1, decide_eq_true_eq, Bool.false_eq_true, if_false, if_true, List.append_nil, List.nil_append, List.cons_append]
    have := cut_len V' none (some at0')
    exact ite2 (fun _ => ⟨big _ (by omega), k _ _ (by omega) hp3 kk⟩) fun _ => k _ _ (by omega) hp3 kk
  have fin2 : ∀ V' : Str, V'.length ≤ 25 → tSeq (tIfS (tTest (tOp rEq (tVar 3) (tC (V.int 2)))) (tAsg (tOp rAddT (tOp rAddT (tSl rSlS (tVar 1) tNoPart (tPart (tVar 4))) (tVar 5)) (tSl rSlS (tVar 1) (tPart (tVar 4)) tNoPart)) (gName 1)) tNext)
      (tSeq (tIfS (tTest (tOp rEq (tVar 3) (tC (V.int 3)))) (tAsg (tSl rSlS (tVar 1) tNoPart (tPart (tVar 4))) (gName 1)) tNext) (tRet (tVar 1))) { nx := fun x H' => Q V.non H', rt := Q } [some (.ref P), some (.str V'), some (.str M), some (.int way), some (.int at0'), some (.str L)] H3 := fun V' hv => by
    rw [x_seq]
    simp only [x_if, x_test, x_B, x_op, x_un, x_varS, x_var0, x_c, x_I0, x_I, x_U, x_bl, x_ret, x_next, x_eqS, x_neS, x_m0, x_m1, x_isStr, x_SM, x_addT, x_slS, x_lenS, x_strI, x_mulS, x_startT, x_findT, x_preT, x_lstT, x_ascT, x_digT, x_jn, x_js0, x_js1, x_isS, x_fmt, x_fmtS, x_divW, x_truK, x_truS, x_raiseT, x_asg, x_name, x_set0, x_setS, x_drop, x_cb, x_cons, x_nil, x_int1, x_abs1, x_max2, x_gcd, x_gsub, x_sl, x_part, x_nopart, x_int, x_call, x_lst, x_tup, x_not, x_and, x_or, x_andV, x_orV, x_notV, x_ifE, x_eqI, x_neI, x_eqB, x_neB, x_tbm, x_never, x_make, x_meth, x_isII, x_isIC, x_bool1, decide_eq_true_eq, Bool.false_eq_true, if_false, if_true, List.append_nil, List.nil_append, List.cons_append]
    have q1 := cut_len V' none (some at0')
    have q2 := cut_len V' (some at0') none
    refine ite2 (fun _ => ⟨big _ (by omega), big _ (by omega), big _ (by omega), big _ (by rw [add_len]; omega), fin3 _ (by rw [add_len, add_len]; omega)⟩) fun _ => fin3 _ (by omega)
  exact ite2 (fun _ => ⟨big _ (by omega), big _ (by omega), big _ (by omega), big _ (by rw [add_len]; omega), fin2 _ (by rw [add_len, add_len]; omega)⟩) fun _ => fin2 _ (by omega)
theorem pure_oword (vs : List V) (H : Hp) (Q : VK) (E : XK) (h : spOWord vs H Q E) : t_oword K C Z BO f_oplace E { nx := fun _ H' => Q .non H', rt := Q } (start ["pool", "word", "letters", "way", "at", "letter"] vs) H := by
  obtain ⟨P, rfl, hp, k⟩ := h
  show t_oword K C Z BO f_oplace E _ [some (.ref P), none, none, none, none, none] H
  unfold t_oword
  rw [x_seq]
  simp only [x_if, x_test, x_B, x_op, x_un, x_varS, x_var0, x_c, x_I0, x_I, x_U, x_bl, x_ret, x_next, x_eqS, x_neS, x_m0, x_m1, x_isStr, x_SM, x_addT, x_slS, x_lenS, x_strI, x_mulS, x_startT, x_findT, x_preT, x_lstT, x_ascT, x_digT, x_jn, x_js0, x_js1, x_isS, x_fmt, x_fmtS, x_divW, x_truK, x_truS, x_raiseT, x_asg, x_name, x_set0, x_setS, x_drop, x_cb, x_cons, x_nil, x_int1, x_abs1, x_max2, x_gcd, x_gsub, x_sl, x_part, x_nopart, x_int, x_call, x_lst, x_tup, x_not, x_and, x_or, x_andV, x_orV, x_notV, x_ifE, x_eqI, x_neI, x_eqB, x_neB, x_tbm, x_never, x_make, x_meth, x_isII, x_isIC, x_bool1, decide_eq_true_eq, Bool.false_eq_true, if_false, if_true, List.append_nil, List.nil_append, List.cons_append]
  refine ⟨by decide, fun q hq => ?_⟩
  have nq := lst_ne hp hq
  refine take_to (hp.same (Same.new hq)) noB (by decide) (by decide) fun r H1 hp1 k1 r0 r1 => ?_
  have r1 := r1 (by decide)
  have hq1 := k1 _ _ nq upd_same
  have k01 : Keep P H H1 := fun b o hb e => k1 _ _ hb (Same.new hq _ _ e)
  obtain rfl | rfl : r = 0 ∨ r = 1 := by omega
  · rw [x_ix hq1 (show atI [V.str "degree", V.str "variables"] 0 = some (V.str "degree") from rfl)]
    rw [x_seq]
    simp only [x_if, x_test, x_B, x_op, x_un, x_varS, x_var0, x_c, x_I0, x_I, x_U, x_bl, x_ret, x_next, x_eqS, x_neS, x_m0, x_m1, x_isStr, x_SM, x_addT, x_slS, x_lenS, x_strI, x_mulS, x_startT, x_findT, x_preT, x_lstT, x_ascT, x_digT, x_jn, x_js0, x_js1, x_isS, x_fmt, x_fmtS, x_divW, x_truK, x_truS, x_raiseT, x_asg, x_name, x_set0, x_setS, x_drop, x_cb, x_cons, x_nil, x_int1, x_abs1, x_max2, x_gcd, x_gsub, x_sl, x_part, x_nopart, x_int, x_call, x_lst, x_tup, x_not, x_and, x_or, x_andV, x_orV, x_notV, x_ifE, x_eqI, x_neI, x_eqB, x_neB, x_tbm, x_never, x_make, x_meth, x_isII, x_isIC, x_bool1, decide_eq_true_eq, Bool.false_eq_true, if_false, if_true, List.append_nil, List.nil_append, List.cons_append]
    exact oword_2 (K := K) (C := C) (Z := Z) (BO := BO) (f_oplace := f_oplace) (E := E) hp1 (by decide +kernel) fun y H' l p q => k y H' l p (k01.trans q)
  · rw [x_ix hq1 (show atI [V.str "degree", V.str "variables"] 1 = some (V.str "variables") from rfl)]
    rw [x_seq]
    simp only [x_if, x_test, x_B, x_op, x_un, x_varS, x_var0, x_c, x_I0, x_I, x_U, x_bl, x_ret, x_next, x_eqS, x_neS, x_m0, x_m1, x_isStr, x_SM, x_addT, x_slS, x_lenS, x_strI, x_mulS, x_startT, x_findT, x_preT, x_lstT, x_ascT, x_digT, x_jn, x_js0, x_js1, x_isS, x_fmt, x_fmtS, x_divW, x_truK, x_truS, x_raiseT, x_asg, x_name, x_set0, x_setS, x_drop, x_cb, x_cons, x_nil, x_int1, x_abs1, x_max2, x_gcd, x_gsub, x_sl, x_part, x_nopart, x_int, x_call, x_lst, x_tup, x_not, x_and, x_or, x_andV, x_orV, x_notV, x_ifE, x_eqI, x_neI, x_eqB, x_neB, x_tbm, x_never, x_make, x_meth, x_isII, x_isIC, x_bool1, decide_eq_true_eq, Bool.false_eq_true, if_false, if_true, List.append_nil, List.nil_append, List.cons_append]
    exact oword_2 (K := K) (C := C) (Z := Z) (BO := BO) (f_oplace := f_oplace) (E := E) hp1 (by decide +kernel) fun y H' l p q => k y H' l p (k01.trans q)
end
end SpX

set_option Elab.async false
set_option linter.all false
set_option maxRecDepth 100000
set_option maxHeartbeats 4000000
/-! Law k26: what is refused. -/
namespace SpX
open PySem PySem.Spec L2 StX RZ
def spNOrd (C BO : Addr) : Sp := fun vs H Q _ => ∃ (r : Addr) (kd : Str) (rk : List Int), vs = [.str kd, .ref r] ∧ SeqA H r (rk.map V.int) ∧ rk.length ≤ 900 ∧ ¬ GoodO kd rk ∧ ∀ H', Same H H' → Q (.bl true) H'
def t_nordb (C BO : Addr) (W : WX) : TS := tDrop (tMakeS C (spOrder C BO) (WE W) (tCons (tVar 0) (tCons (tVar 1) tNil)))
def isC (K : PySem.W.Frag) (D a : Addr) (cls : Value) (d : Option Addr) (i : Nat) (v : V) : TE := tCB (rCaught K D a cls d) (tCons (tVar i) (tCons (tC v) tNil))
def t_nordc (K : PySem.W.Frag) (BO SE BT WD BI : Addr) (a : Addr) (cls : Value) (d : Option Addr) : TS :=
  tSeq (tAsg (tAndV (isC K BO a cls d 3 (.ref SE)) (tAndV (isC K BO a cls d 3 (.ty "ValueError")) (tNotV (isC K BO a cls d 3 (.ref BT))))) (gName 2))
  (tAsg (tAndV (tVar 2) (tAndV (tNotV (isC K BO a cls d 3 (.ref WD))) (tNotV (isC K BO a cls d 3 (.ref BI))))) (gName 2))
def t_nordt (K : PySem.W.Frag) (C BO SE BT WD BI : Addr) : TS := fun D σ H => t_nordb C BO (wAs K (.ref BO) 3 (t_nordc K BO SE BT WD BI) (fun _ _ _ _ => False) D) D σ H
def t_nord (K : PySem.W.Frag) (C BO SE BT WD BI : Addr) : TS := tSeq (tAsg (tC (.bl false)) (gName 2)) (tSeq (t_nordt K C BO SE BT WD BI) (tRet (tVar 2)))
/-- what the text says of an error's classes -/
structure ExcO (K : PySem.W.Frag) (D : Addr) (yes no : List Addr) : Prop where
  cz : ExcC K D
  is : PySem.W.exmOne K (.ref D) (.ref D) = some true
  ve : PySem.W.kitOne K (.ref D) (.type "ValueError") = some true
  yes : ∀ c ∈ yes, PySem.W.kitOne K (.ref D) (.ref c) = some true
  no : ∀ c ∈ no, PySem.W.kitOne K (.ref D) (.ref c) = some false
theorem lk_arr {kd : Str} {o : Addr} {d : Int} : (RFO kd o d).lookup ("arranged" : Str) = none := by
  unfold RFO
  rw [lk_ne (by decide +kernel), lk_ne (by decide +kernel), lk_ne (by decide +kernel)]
  rfl
theorem lk_prec {kd : Str} {o : Addr} {d : Int} : (RFO kd o d).lookup ("precedes" : Str) = none := by
  unfold RFO
  rw [lk_ne (by decide +kernel), lk_ne (by decide +kernel), lk_ne (by decide +kernel)]
  rfl
section
variable {K : PySem.W.Frag} {C Z BO f_oplace : Addr}
theorem isC_of {D a c : Addr} {b : Bool} {i : Nat} {σ : L2.St} {H : Hp} {Q : VK} (hi : σ[i]? = some (some (.ref a))) (h : PySem.W.kitOne K (.ref D) (.ref c) = some b) (k : Q (.bl b) H) : isC K D a (.ref D) none i (.ref c) σ H Q := ⟨.ref a, hi, caught_of h k⟩
theorem isC_ty {D a : Addr} {c : String} {b : Bool} {i : Nat} {σ : L2.St} {H : Hp} {Q : VK} (hi : σ[i]? = some (some (.ref a))) (h : PySem.W.kitOne K (.ref D) (.type c) = some b) (k : Q (.bl b) H) : isC K D a (.ref D) none i (.ty c) σ H Q := ⟨.ref a, hi, caught_ty h k⟩
theorem order_no {C BO p dx r : Addr} {H : Hp} {Q : VK} {E : XK} {kd : Str} {rk : List Int} (hr : SeqA H r (rk.map V.int)) (hz : rk.length ≤ 900) (hg : ¬ GoodO kd rk) (np : H p = none) (nd : H dx = none) (ne : dx ≠ p) (k : ∀ H', Same H H' → E (.ref BO) none H') :
    spOrder C BO [.ref p, .str kd, .ref r] (upd (upd H dx (.own p)) p (.ins C dx [])) Q E := by
  have s : Same H (upd (upd H dx (.own p)) p (.ins C dx [])) := Same.new' (Same.new nd) (by rw [upd_ne ne.symm]; exact np)
  exact ⟨p, dx, r, kd, rk, rfl, upd_same, by rcases hr with h | h; exact .inl (s _ _ h); exact .inr (s _ _ h), hz, fun _ H' s' => k H' (s.trans s'), fun g => absurd g hg⟩
theorem pure_nord {SE BT WD BI : Addr} (T : ExcO K BO [SE] [BT, WD, BI]) (vs : List V) (H : Hp) (Q : VK) (E : XK) (h : spNOrd C BO vs H Q E) : t_nord K C BO SE BT WD BI { nx := fun _ H' => Q .non H', rt := Q } (start ["kind", "ranking", "right", "e"] vs) H := by
  obtain ⟨r, kd, rk, rfl, hr, hz, hg, k⟩ := h
  show t_nord K C BO SE BT WD BI _ [some (.str kd), some (.ref r), none, none] H
  unfold t_nord
  rw [x_seq]
  simp only [x_if, x_test, x_B, x_op, x_un, x_varS, x_var0, x_c, x_I0, x_I, x_U, x_bl, x_ret, x_next, x_eqS, x_neS, x_m0, x_m1, x_isStr, x_SM, x_addT, x_slS, x_lenS, x_strI, x_mulS, x_startT, x_findT, x_preT, x_lstT, x_ascT, x_digT, x_jn, x_js0, x_js1, x_isS, x_fmt, x_fmtS, x_divW, x_truK, x_truS, x_raiseT, x_asg, x_name, x_set0, x_setS, x_drop, x_cb, x_cons, x_nil, x_int1, x_abs1, x_max2, x_gcd, x_gsub, x_sl, x_part, x_nopart, x_int, x_call, x_lst, x_tup, x_not, x_and, x_or, x_andV, x_orV, x_notV, x_ifE, x_eqI, x_neI, x_eqB, x_neB, x_tbm, x_never, x_make, x_meth, x_isII, x_isIC, x_bool1, decide_eq_true_eq, Bool.false_eq_true, if_false, if_true, List.append_nil, List.nil_append, List.cons_append]
  rw [x_seq]
  unfold t_nordt t_nordb
  simp only [x_if, x_test, x_B, x_op, x_un, x_varS, x_var0, x_c, x_I0, x_I, x_U, x_bl, x_ret, x_next, x_eqS, x_neS, x_m0, x_m1, x_isStr, x_SM, x_addT, x_slS, x_lenS, x_strI, x_mulS, x_startT, x_findT, x_preT, x_lstT, x_ascT, x_digT, x_jn, x_js0, x_js1, x_isS, x_fmt, x_fmtS, x_divW, x_truK, x_truS, x_raiseT, x_asg, x_name, x_set0, x_setS, x_drop, x_cb, x_cons, x_nil, x_int1, x_abs1, x_max2, x_gcd, x_gsub, x_sl, x_part, x_nopart, x_int, x_call, x_lst, x_tup, x_not, x_and, x_or, x_andV, x_orV, x_notV, x_ifE, x_eqI, x_neI, x_eqB, x_neB, x_tbm, x_never, x_make, x_meth, x_isII, x_isIC, x_bool1, decide_eq_true_eq, Bool.false_eq_true, if_false, if_true, List.append_nil, List.nil_append, List.cons_append, x_makeS]
  intro p dx np nd ne
  refine order_no hr hz hg np nd ne fun H' s => ?_
  refine ⟨true, T.is, fun _ a ha => ?_, fun h => Bool.noConfusion h⟩
  unfold t_nordc
  simp only [x_setS, x_set0]
  rw [x_seq]
  simp only [x_if, x_test, x_B, x_op, x_un, x_varS, x_var0, x_c, x_I0, x_I, x_U, x_bl, x_ret, x_next, x_eqS, x_neS, x_m0, x_m1, x_isStr, x_SM, x_addT, x_slS, x_lenS, x_strI, x_mulS, x_startT, x_findT, x_preT, x_lstT, x_ascT, x_digT, x_jn, x_js0, x_js1, x_isS, x_fmt, x_fmtS, x_divW, x_truK, x_truS, x_raiseT, x_asg, x_name, x_set0, x_setS, x_drop, x_cb, x_cons, x_nil, x_int1, x_abs1, x_max2, x_gcd, x_gsub, x_sl, x_part, x_nopart, x_int, x_call, x_lst, x_tup, x_not, x_and, x_or, x_andV, x_orV, x_notV, x_ifE, x_eqI, x_neI, x_eqB, x_neB, x_tbm, x_never, x_make, x_meth, x_isII, x_isIC, x_bool1, decide_eq_true_eq, Bool.false_eq_true, if_false, if_true, List.append_nil, List.nil_append, List.cons_append]
  refine isC_of rfl (T.yes SE (by simp)) ?_
  simp only [x_if, x_test, x_B, x_op, x_un, x_varS, x_var0, x_c, x_I0, x_I, x_U, x_bl, x_ret, x_next, x_eqS, x_neS, x_m0, x_m1, x_isStr, x_SM, x_addT, x_slS, x_lenS, x_strI, x_mulS, x_startT, x_findT, x_preT, x_lstT, x_ascT, x_digT, x_jn, x_js0, x_js1, x_isS, x_fmt, x_fmtS, x_divW, x_truK, x_truS, x_raiseT, x_asg, x_name, x_set0, x_setS, x_drop, x_cb, x_cons, x_nil, x_int1, x_abs1, x_max2, x_gcd, x_gsub, x_sl, x_part, x_nopart, x_int, x_call, x_lst, x_tup, x_not, x_and, x_or, x_andV, x_orV, x_notV, x_ifE, x_eqI, x_neI, x_eqB, x_neB, x_tbm, x_never, x_make, x_meth, x_isII, x_isIC, x_bool1, decide_eq_true_eq, Bool.false_eq_true, if_false, if_true, List.append_nil, List.nil_append, List.cons_append]
  refine isC_ty rfl T.ve ⟨true, rfl, ?_⟩
  rw [if_pos rfl]
  refine isC_of rfl (T.no BT (by simp)) ⟨false, rfl, ?_⟩
  rw [if_pos (by decide)]
  refine isC_of rfl (T.no WD (by simp)) ⟨false, rfl, ?_⟩
  rw [if_pos (by decide)]
  exact isC_of rfl (T.no BI (by simp)) ⟨false, rfl, k H' s⟩
/-! ### a list, a pair that an order refuses -/
def spNArr (C : Addr) : Sp := fun vs H Q _ => ∃ (p l : Addr) (kd : Str) (rk : List Int) (es : List Addr) (nss : List (List Int)), vs = [.ref p, .ref l] ∧ OrdAt C H p kd rk ∧ GoodO kd rk ∧ SeqA H l (es.map V.ref) ∧ RowsAt H es nss ∧ es.length ≤ 900 ∧ (∃ ns ∈ nss, ns.length ≠ rk.length) ∧ ∀ H', Same H H' → Q (.bl true) H'
def t_narrb (C Z : Addr) (W : WX) : TS := tDrop (tMethSt C "arranged" (spOArr C Z) (WE W) (tVar 0) (tCons (tVar 1) tNil))
def t_wdc (K : PySem.W.Frag) (Z SE BO WC : Addr) (i j : Nat) (a : Addr) (cls : Value) (d : Option Addr) : TS :=
  tAsg (tAndV (isC K Z a cls d i (.ref SE)) (tAndV (tNotV (isC K Z a cls d i (.ref BO))) (tNotV (isC K Z a cls d i (.ref WC))))) (gName j)
def t_narrt (K : PySem.W.Frag) (C Z SE BO WC : Addr) : TS := fun D σ H => t_narrb C Z (wAs K (.ref Z) 3 (t_wdc K Z SE BO WC 3 2) (fun _ _ _ _ => False) D) D σ H
def t_narr (K : PySem.W.Frag) (C Z SE BO WC : Addr) : TS := tSeq (tAsg (tC (.bl false)) (gName 2)) (tSeq (t_narrt K C Z SE BO WC) (tRet (tVar 2)))
theorem pure_narr {SE WC : Addr} (T : ExcO K Z [SE] [BO, WC]) (vs : List V) (H : Hp) (Q : VK) (E : XK) (h : spNArr C vs H Q E) : t_narr K C Z SE BO WC { nx := fun _ H' => Q .non H', rt := Q } (start ["order", "places", "right", "e"] vs) H := by
  obtain ⟨p, l, kd, rk, es, nss, rfl, ho, g, hl, hr, hz, ⟨bad, hb, hbl⟩, k⟩ := h
  obtain ⟨dx, o, hp, _⟩ := id ho
  show t_narr K C Z SE BO WC _ [some (.ref p), some (.ref l), none, none] H
  unfold t_narr
  rw [x_seq]
  simp only [x_if, x_test, x_B, x_op, x_un, x_varS, x_var0, x_c, x_I0, x_I, x_U, x_bl, x_ret, x_next, x_eqS, x_neS, x_m0, x_m1, x_isStr, x_SM, x_addT, x_slS, x_lenS, x_strI, x_mulS, x_startT, x_findT, x_preT, x_lstT, x_ascT, x_digT, x_jn, x_js0, x_js1, x_isS, x_fmt, x_fmtS, x_divW, x_truK, x_truS, x_raiseT, x_asg, x_name, x_set0, x_setS, x_drop, x_cb, x_cons, x_nil, x_int1, x_abs1, x_max2, x_gcd, x_gsub, x_sl, x_part, x_nopart, x_int, x_call, x_lst, x_tup, x_not, x_and, x_or, x_andV, x_orV, x_notV, x_ifE, x_eqI, x_neI, x_eqB, x_neB, x_tbm, x_never, x_make, x_meth, x_isII, x_isIC, x_bool1, decide_eq_true_eq, Bool.false_eq_true, if_false, if_true, List.append_nil, List.nil_append, List.cons_append]
  rw [x_seq]
  unfold t_narrt t_narrb
  simp only [x_if, x_test, x_B, x_op, x_un, x_varS, x_var0, x_c, x_I0, x_I, x_U, x_bl, x_ret, x_next, x_eqS, x_neS, x_m0, x_m1, x_isStr, x_SM, x_addT, x_slS, x_lenS, x_strI, x_mulS, x_startT, x_findT, x_preT, x_lstT, x_ascT, x_digT, x_jn, x_js0, x_js1, x_isS, x_fmt, x_fmtS, x_divW, x_truK, x_truS, x_raiseT, x_asg, x_name, x_set0, x_setS, x_drop, x_cb, x_cons, x_nil, x_int1, x_abs1, x_max2, x_gcd, x_gsub, x_sl, x_part, x_nopart, x_int, x_call, x_lst, x_tup, x_not, x_and, x_or, x_andV, x_orV, x_notV, x_ifE, x_eqI, x_neI, x_eqB, x_neB, x_tbm, x_never, x_make, x_meth, x_isII, x_isIC, x_bool1, decide_eq_true_eq, Bool.false_eq_true, if_false, if_true, List.append_nil, List.nil_append, List.cons_append, x_methS]
  refine ⟨p, dx, _, rfl, hp, lk_arr, p, l, kd, rk, es, nss, rfl, ho, g, hl, hr, hz, fun _ H' s => ?_, fun hall => absurd (hall bad hb) hbl⟩
  refine ⟨true, T.is, fun _ a ha => ?_, fun h => Bool.noConfusion h⟩
  unfold t_wdc
  simp only [x_if, x_test, x_B, x_op, x_un, x_varS, x_var0, x_c, x_I0, x_I, x_U, x_bl, x_ret, x_next, x_eqS, x_neS, x_m0, x_m1, x_isStr, x_SM, x_addT, x_slS, x_lenS, x_strI, x_mulS, x_startT, x_findT, x_preT, x_lstT, x_ascT, x_digT, x_jn, x_js0, x_js1, x_isS, x_fmt, x_fmtS, x_divW, x_truK, x_truS, x_raiseT, x_asg, x_name, x_set0, x_setS, x_drop, x_cb, x_cons, x_nil, x_int1, x_abs1, x_max2, x_gcd, x_gsub, x_sl, x_part, x_nopart, x_int, x_call, x_lst, x_tup, x_not, x_and, x_or, x_andV, x_orV, x_notV, x_ifE, x_eqI, x_neI, x_eqB, x_neB, x_tbm, x_never, x_make, x_meth, x_isII, x_isIC, x_bool1, decide_eq_true_eq, Bool.false_eq_true, if_false, if_true, List.append_nil, List.nil_append, List.cons_append]
  refine isC_of rfl (T.yes SE (by simp)) ⟨true, rfl, ?_⟩
  rw [if_pos rfl]
  refine isC_of rfl (T.no BO (by simp)) ⟨false, rfl, ?_⟩
  rw [if_pos (by decide)]
  exact isC_of rfl (T.no WC (by simp)) ⟨false, rfl, k H' s⟩
def spNPrec (C : Addr) : Sp := fun vs H Q _ => ∃ (p e f : Addr) (kd : Str) (rk ns ms : List Int), vs = [.ref p, .ref e, .ref f] ∧ OrdAt C H p kd rk ∧ GoodO kd rk ∧ ExpAt H e ns ∧ ExpAt H f ms ∧ ¬ (ns.length = rk.length ∧ ms.length = rk.length) ∧ ∀ H', Same H H' → Q (.bl true) H'
def t_nprecb (C Z : Addr) (W : WX) : TS := tDrop (tMethSt C "precedes" (spOPrec C Z) (WE W) (tVar 0) (tCons (tVar 1) (tCons (tVar 2) tNil)))
def t_nprect (K : PySem.W.Frag) (C Z SE BO WC : Addr) : TS := fun D σ H => t_nprecb C Z (wAs K (.ref Z) 4 (t_wdc K Z SE BO WC 4 3) (fun _ _ _ _ => False) D) D σ H
def t_nprec (K : PySem.W.Frag) (C Z SE BO WC : Addr) : TS := tSeq (tAsg (tC (.bl false)) (gName 3)) (tSeq (t_nprect K C Z SE BO WC) (tRet (tVar 3)))
theorem pure_nprec {SE WC : Addr} (T : ExcO K Z [SE] [BO, WC]) (vs : List V) (H : Hp) (Q : VK) (E : XK) (h : spNPrec C vs H Q E) : t_nprec K C Z SE BO WC { nx := fun _ H' => Q .non H', rt := Q } (start ["order", "one", "two", "right", "e"] vs) H := by
  obtain ⟨p, e, f, kd, rk, ns, ms, rfl, ho, g, he, hf, hb, k⟩ := h
  obtain ⟨dx, o, hp, _⟩ := id ho
  show t_nprec K C Z SE BO WC _ [some (.ref p), some (.ref e), some (.ref f), none, none] H
  unfold t_nprec
  rw [x_seq]
  simp only [x_if, x_test, x_B, x_op, x_un, x_varS, x_var0, x_c, x_I0, x_I, x_U, x_bl, x_ret, x_next, x_eqS, x_neS, x_m0, x_m1, x_isStr, x_SM, x_addT, x_slS, x_lenS, x_strI, x_mulS, x_startT, x_findT, x_preT, x_lstT, x_ascT, x_digT, x_jn, x_js0, x_js1, x_isS, x_fmt, x_fmtS, x_divW, x_truK, x_truS, x_raiseT, x_asg, x_name, x_set0, x_setS, x_drop, x_cb, x_cons, x_nil, x_int1, x_abs1, x_max2, x_gcd, x_gsub, x_sl, x_part, x_nopart, x_int, x_call, x_lst, x_tup, x_not, x_and, x_or, x_andV, x_orV, x_notV, x_ifE, x_eqI, x_neI, x_eqB, x_neB, x_tbm, x_never, x_make, x_meth, x_isII, x_isIC, x_bool1, decide_eq_true_eq, Bool.false_eq_true, if_false, if_true, List.append_nil, List.nil_append, List.cons_append]
  rw [x_seq]
  unfold t_nprect t_nprecb
  simp only [x_if, x_test, x_B, x_op, x_un, x_varS, x_var0, x_c, x_I0, x_I, x_U, x_bl, x_ret, x_next, x_eqS, x_neS, x_m0, x_m1, x_isStr, x_SM, x_addT, x_slS, x_lenS, x_strI, x_mulS, x_startT, x_findT, x_preT, x_lstT, x_ascT, x_digT, x_jn, x_js0, x_js1, x_isS, x_fmt, x_fmtS, x_divW, x_truK, x_truS, x_raiseT, x_asg, x_name, x_set0, x_setS, x_drop, x_cb, x_cons, x_nil, x_int1, x_abs1, x_max2, x_gcd, x_gsub, x_sl, x_part, x_nopart, x_int, x_call, x_lst, x_tup, x_not, x_and, x_or, x_andV, x_orV, x_notV, x_ifE, x_eqI, x_neI, x_eqB, x_neB, x_tbm, x_never, x_make, x_meth, x_isII, x_isIC, x_bool1, decide_eq_true_eq, Bool.false_eq_true, if_false, if_true, List.append_nil, List.nil_append, List.cons_append, x_methS]
  refine ⟨p, dx, _, rfl, hp, lk_prec, p, e, f, kd, rk, ns, ms, rfl, ho, g, he, hf, fun _ H' s => ?_, fun h1 h2 => absurd ⟨h1, h2⟩ hb⟩
  refine ⟨true, T.is, fun _ a ha => ?_, fun h => Bool.noConfusion h⟩
  unfold t_wdc
  simp only [x_if, x_test, x_B, x_op, x_un, x_varS, x_var0, x_c, x_I0, x_I, x_U, x_bl, x_ret, x_next, x_eqS, x_neS, x_m0, x_m1, x_isStr, x_SM, x_addT, x_slS, x_lenS, x_strI, x_mulS, x_startT, x_findT, x_preT, x_lstT, x_ascT, x_digT, x_jn, x_js0, x_js1, x_isS, x_fmt, x_fmtS, x_divW, x_truK, x_truS, x_raiseT, x_asg, x_name, x_set0, x_setS, x_drop, x_cb, x_cons, x_nil, x_int1, x_abs1, x_max2, x_gcd, x_gsub, x_sl, x_part, x_nopart, x_int, x_call, x_lst, x_tup, x_not, x_and, x_or, x_andV, x_orV, x_notV, x_ifE, x_eqI, x_neI, x_eqB, x_neB, x_tbm, x_never, x_make, x_meth, x_isII, x_isIC, x_bool1, decide_eq_true_eq, Bool.false_eq_true, if_false, if_true, List.append_nil, List.nil_append, List.cons_append]
  refine isC_of rfl (T.yes SE (by simp)) ⟨true, rfl, ?_⟩
  rw [if_pos rfl]
  refine isC_of rfl (T.no BO (by simp)) ⟨false, rfl, ?_⟩
  rw [if_pos (by decide)]
  exact isC_of rfl (T.no WC (by simp)) ⟨false, rfl, k H' s⟩
end
end SpX

set_option Elab.async false
set_option linter.all false
set_option maxRecDepth 100000
set_option maxHeartbeats 4000000
/-! Law k26: orders that are alike or not. -/
namespace SpX
open PySem PySem.Spec L2 StX RZ
def spOUnl (C : Addr) : Sp := fun vs H Q _ => ∃ (p r : Addr) (kd : Str) (rk : List Int), vs = [.ref p, .str kd, .ref r] ∧ OrdAt C H p kd rk ∧ GoodO kd rk ∧ H r = some (.lst (rk.map V.int)) ∧ ∀ H', Same H H' → Q (.bl true) H'
def t_ounl (K : PySem.W.Frag) (C Z BO f_oplace : Addr) (E : XK) : TS :=
    (tSeq (tAsg (tCB rLenA (tCons (tVar 2) tNil)) (gName 3))
    (tSeq (tIfS (tNot (tB (tCall spSays [] E0 (tCons (tOp (rOwn2 C (spOEq C) E0) (tVar 0) (tMake C (spOrder C BO) [] E0 (tCons (tVar 1) (tCons (tCB rTupA (tCons (tVar 2) tNil)) tNil)))) (tCons (tC (.bl true)) tNil))))) (tRet (tC (.bl false))) tNext)
    (tSeq (tIfS (tNot (tB (tCall spSays [] E0 (tCons (tOp (rOwn2 C (spOEq C) E0) (tVar 0) (tMake C (spOrder C BO) [] E0 (tCons (tVar 1) (tCons (tCB rListR (tCons (tCB rRangeV (tCons (tOp (rI0 fun i j => .int (i + j)) (tC (.int 1)) (tOp (rI (fun _ j => 0 < j) fun i j => .int (i % j)) (tCB rInt1 (tCons (tVar 3) tNil)) (tC (.int 3)))) tNil)) tNil)) tNil)))) (tCons (tC (.bl false)) tNil))))) (tRet (tC (.bl false))) tNext)
    (tSeq (tAsg (tC (.str "variables")) (gName 4))
    (tSeq (tIfS (tTest (tOp rEq (tVar 1) (tC (.str "variables")))) (tAsg (tC (.str "degree")) (gName 4)) tNext)
    (tSeq (tIfS (tNot (tB (tCall spSays [] E0 (tCons (tOp (rOwn2 C (spOEq C) E0) (tVar 0) (tMake C (spOrder C BO) [] E0 (tCons (tVar 4) (tCons (tCB rListA (tCons (tVar 2) tNil)) tNil)))) (tCons (tC (.bl false)) tNil))))) (tRet (tC (.bl false))) tNext)
    (tSeq (tIfS (tTest (tOp rEq (tVar 3) (tC (.int 1)))) (tRet (tC (.bl true))) tNext)
    (tRet (tCall spSays [] E0 (tCons (tOp (rOwn2 C (spOEq C) E0) (tVar 0) (tMake C (spOrder C BO) [] E0 (tCons (tVar 1) (tCons (tOp rCat (tSl rSlA (tVar 2) (tPart (tC (.int 1))) tNoPart) (tSl rSlA (tVar 2) tNoPart (tPart (tC (.int 1))))) tNil)))) (tCons (tC (.bl false)) tNil)))))))))))
theorem order_yes {C BO p dx r : Addr} {H : Hp} {Q : Hp → Prop} {E : XK} {kd : Str} {rk : List Int} (hr : SeqA H r (rk.map V.int)) (g : GoodO kd rk) (np : H p = none) (nd : H dx = none) (ne : dx ≠ p) (k : ∀ H', OrdAt C H' p kd rk → Same H H' → Q H') :
    spOrder C BO [.ref p, .str kd, .ref r] (upd (upd H dx (.own p)) p (.ins C dx [])) (fun v H2 => v = .non ∧ Q H2) E := by
  have s : Same H (upd (upd H dx (.own p)) p (.ins C dx [])) := Same.new' (Same.new nd) (by rw [upd_ne ne.symm]; exact np)
  refine ⟨p, dx, r, kd, rk, rfl, upd_same, by rcases hr with h | h; exact .inl (s _ _ h); exact .inr (s _ _ h), by have := g.hi; omega, fun h => absurd g h, fun _ H' o s' ho => ⟨rfl, k _ ⟨dx, o, upd_same, ?_⟩ fun b u e => ?_⟩⟩
  · have : o ≠ p := fun z => by
      rw [z, ExpAt, s' _ _ upd_same] at ho
      cases ho
    rw [ExpAt, upd_ne this]
    exact ho
  · have : b ≠ p := fun z => by
      rw [z, np] at e
      cases e
    rw [upd_ne this]
    exact s' _ _ (s _ _ e)
/-- p beside a new order -/
theorem eq_made {C BO p r : Addr} {H : Hp} {kd kd' : Str} {rk rk' : List Int} {Q : VK} {b : Bool} (ho : OrdAt C H p kd rk) (g' : GoodO kd' rk') (hr : SeqA H r (rk'.map V.int)) (hb : decide (kd = kd' ∧ rk = rk') = b) (k : ∀ H', Same H H' → Q (.bl true) H') :
    ∀ x dx, H x = none → H dx = none → dx ≠ x → spOrder C BO [.ref x, .str kd', .ref r] (upd (upd H dx (.own x)) x (.ins C dx [])) (fun v H2 => v = .non ∧ rOwn2 C (spOEq C) E0 (.ref p) (.ref x) H2 fun v1 H3 => spSays [v1, .bl b] H3 Q E0) E0 := by
  intro x dx np nd ne
  refine order_yes hr g' np nd ne fun H' ho' s => ?_
  obtain ⟨dp, op, hp, _⟩ := id (ho.same s)
  obtain ⟨dq, oq, hq, _⟩ := id ho'
  rw [x_own2 hp hq]
  refine ⟨p, x, kd, kd', rk, rk', rfl, ho.same s, ho', _, b, rfl, ?_⟩
  rw [hb, decide_eq_true rfl]
  exact k H' s
theorem rng_good (kd : Str) (hk : kd = ("degree" : Str) ∨ kd = ("variables" : Str)) {n : Nat} (h1 : 1 ≤ n) (h3 : n ≤ 3) : GoodO kd (rng n) := by
  have e : (rng n).length = n := by unfold rng; rw [List.length_map, List.length_range]
  exact ⟨hk, by omega, by omega, by rw [e]⟩
section
variable {K : PySem.W.Frag} {C Z BO f_oplace : Addr}
theorem pure_ounl (vs : List V) (H : Hp) (Q : VK) (E : XK) (h : spOUnl C vs H Q E) : t_ounl K C Z BO f_oplace E { nx := fun _ H' => Q .non H', rt := Q } (start ["order", "kind", "ranking", "dimension", "other"] vs) H := by
  obtain ⟨p, r, kd, rk, rfl, ho, g, hr, k⟩ := h
  show t_ounl K C Z BO f_oplace E _ [some (.ref p), some (.str kd), some (.ref r), none, none] H
  have lrng : ∀ n, (rng n).length = n := fun n => by unfold rng; rw [List.length_map, List.length_range]
  unfold t_ounl
  rw [x_seq]
  simp only [x_if, x_test, x_B, x_op, x_un, x_varS, x_var0, x_c, x_I0, x_I, x_U, x_bl, x_ret, x_next, x_eqS, x_neS, x_m0, x_m1, x_isStr, x_SM, x_addT, x_slS, x_lenS, x_strI, x_mulS, x_startT, x_findT, x_preT, x_lstT, x_ascT, x_digT, x_jn, x_js0, x_js1, x_isS, x_fmt, x_fmtS, x_divW, x_truK, x_truS, x_raiseT, x_asg, x_name, x_set0, x_setS, x_drop, x_cb, x_cons, x_nil, x_int1, x_abs1, x_max2, x_gcd, x_gsub, x_sl, x_part, x_nopart, x_int, x_call, x_lst, x_tup, x_not, x_and, x_or, x_andV, x_orV, x_notV, x_ifE, x_eqI, x_neI, x_eqB, x_neB, x_tbm, x_never, x_make, x_meth, x_isII, x_isIC, x_bool1, decide_eq_true_eq, Bool.false_eq_true, if_false, if_true, List.append_nil, List.nil_append, List.cons_append, x_lenA hr, List.length_map]
  rw [x_seq]
  simp only [x_if, x_test, x_B, x_op, x_un, x_varS, x_var0, x_c, x_I0, x_I, x_U, x_bl, x_ret, x_next, x_eqS, x_neS, x_m0, x_m1, x_isStr, x_SM, x_addT, x_slS, x_lenS, x_strI, x_mulS, x_startT, x_findT, x_preT, x_lstT, x_ascT, x_digT, x_jn, x_js0, x_js1, x_isS, x_fmt, x_fmtS, x_divW, x_truK, x_truS, x_raiseT, x_asg, x_name, x_set0, x_setS, x_drop, x_cb, x_cons, x_nil, x_int1, x_abs1, x_max2, x_gcd, x_gsub, x_sl, x_part, x_nopart, x_int, x_call, x_lst, x_tup, x_not, x_and, x_or, x_andV, x_orV, x_notV, x_ifE, x_eqI, x_neI, x_eqB, x_neB, x_tbm, x_never, x_make, x_meth, x_isII, x_isIC, x_bool1, decide_eq_true_eq, Bool.false_eq_true, if_false, if_true, List.append_nil, List.nil_append, List.cons_append]
  refine ⟨r, rk.map V.int, rfl, .inl ⟨hr, fun t ht => ?_⟩⟩
  have s1 : Same H (upd H t (.tup (rk.map V.int))) := Same.new ht
  refine eq_made (ho.same s1) g (.inr upd_same) (decide_eq_true ⟨rfl, rfl⟩) fun H1 s2 => ?_
  simp only [x_if, x_test, x_B, x_op, x_un, x_varS, x_var0, x_c, x_I0, x_I, x_U, x_bl, x_ret, x_next, x_eqS, x_neS, x_m0, x_m1, x_isStr, x_SM, x_addT, x_slS, x_lenS, x_strI, x_mulS, x_startT, x_findT, x_preT, x_lstT, x_ascT, x_digT, x_jn, x_js0, x_js1, x_isS, x_fmt, x_fmtS, x_divW, x_truK, x_truS, x_raiseT, x_asg, x_name, x_set0, x_setS, x_drop, x_cb, x_cons, x_nil, x_int1, x_abs1, x_max2, x_gcd, x_gsub, x_sl, x_part, x_nopart, x_int, x_call, x_lst, x_tup, x_not, x_and, x_or, x_andV, x_orV, x_notV, x_ifE, x_eqI, x_neI, x_eqB, x_neB, x_tbm, x_never, x_make, x_meth, x_isII, x_isIC, x_bool1, decide_eq_true_eq, Bool.false_eq_true, if_false, if_true, List.append_nil, List.nil_append, List.cons_append, Bool.not_true]
  have s12 := s1.trans s2
  try rw [x_seq]
  simp only [x_if, x_test, x_B, x_op, x_un, x_varS, x_var0, x_c, x_I0, x_I, x_U, x_bl, x_ret, x_next, x_eqS, x_neS, x_m0, x_m1, x_isStr, x_SM, x_addT, x_slS, x_lenS, x_strI, x_mulS, x_startT, x_findT, x_preT, x_lstT, x_ascT, x_digT, x_jn, x_js0, x_js1, x_isS, x_fmt, x_fmtS, x_divW, x_truK, x_truS, x_raiseT, x_asg, x_name, x_set0, x_setS, x_drop, x_cb, x_cons, x_nil, x_int1, x_abs1, x_max2, x_gcd, x_gsub, x_sl, x_part, x_nopart, x_int, x_call, x_lst, x_tup, x_not, x_and, x_or, x_andV, x_orV, x_notV, x_ifE, x_eqI, x_neI, x_eqB, x_neB, x_tbm, x_never, x_make, x_meth, x_isII, x_isIC, x_bool1, decide_eq_true_eq, Bool.false_eq_true, if_false, if_true, List.append_nil, List.nil_append, List.cons_append]
  have hm : (1 + (rk.length : Int) % 3) = ((1 + rk.length % 3 : Nat) : Int) := by omega
  have hlo := g.lo
  have hhi := g.hi
  rw [hm]
  refine ⟨by decide, _, rfl, fun p2 hp2 => ⟨p2, _, rfl, upd_same, by omega, by omega, fun L hL => ?_⟩⟩
  rw [upTo_rng]
  have s3 : Same H (upd (upd H1 p2 (.rng 0 ((1 + rk.length % 3 : Nat) : Int))) L (.lst ((rng (1 + rk.length % 3)).map V.int))) := Same.new' (Same.new' s12 hp2) hL
  refine eq_made (ho.same s3) (rng_good kd g.kind (by omega) (by omega)) (.inl upd_same) (decide_eq_false fun z => ?_) fun H2 s4 => ?_
  · have := congrArg List.length z.2
    rw [lrng] at this
    omega
  simp only [x_if, x_test, x_B, x_op, x_un, x_varS, x_var0, x_c, x_I0, x_I, x_U, x_bl, x_ret, x_next, x_eqS, x_neS, x_m0, x_m1, x_isStr, x_SM, x_addT, x_slS, x_lenS, x_strI, x_mulS, x_startT, x_findT, x_preT, x_lstT, x_ascT, x_digT, x_jn, x_js0, x_js1, x_isS, x_fmt, x_fmtS, x_divW, x_truK, x_truS, x_raiseT, x_asg, x_name, x_set0, x_setS, x_drop, x_cb, x_cons, x_nil, x_int1, x_abs1, x_max2, x_gcd, x_gsub, x_sl, x_part, x_nopart, x_int, x_call, x_lst, x_tup, x_not, x_and, x_or, x_andV, x_orV, x_notV, x_ifE, x_eqI, x_neI, x_eqB, x_neB, x_tbm, x_never, x_make, x_meth, x_isII, x_isIC, x_bool1, decide_eq_true_eq, Bool.false_eq_true, if_false, if_true, List.append_nil, List.nil_append, List.cons_append, Bool.not_true]
  have s34 := s3.trans s4
  clear s3 s4 s1 s2 s12 hp2 hL ht
  try rw [x_seq]
  simp only [x_if, x_test, x_B, x_op, x_un, x_varS, x_var0, x_c, x_I0, x_I, x_U, x_bl, x_ret, x_next, x_eqS, x_neS, x_m0, x_m1, x_isStr, x_SM, x_addT, x_slS, x_lenS, x_strI, x_mulS, x_startT, x_findT, x_preT, x_lstT, x_ascT, x_digT, x_jn, x_js0, x_js1, x_isS, x_fmt, x_fmtS, x_divW, x_truK, x_truS, x_raiseT, x_asg, x_name, x_set0, x_setS, x_drop, x_cb, x_cons, x_nil, x_int1, x_abs1, x_max2, x_gcd, x_gsub, x_sl, x_part, x_nopart, x_int, x_call, x_lst, x_tup, x_not, x_and, x_or, x_andV, x_orV, x_notV, x_ifE, x_eqI, x_neI, x_eqB, x_neB, x_tbm, x_never, x_make, x_meth, x_isII, x_isIC, x_bool1, decide_eq_true_eq, Bool.false_eq_true, if_false, if_true, List.append_nil, List.nil_append, List.cons_append]
  -- the other kind
  have rest : ∀ (other : Str) (H' : Hp), Same H H' → (other = ("degree" : Str) ∨ other = ("variables" : Str)) → kd ≠ other →
      tSeq (tIfS (tNot (tB (tCall spSays [] E0 (tCons (tOp (rOwn2 C (spOEq C) E0) (tVar 0) (tMake C (spOrder C BO) [] E0 (tCons (tVar 4) (tCons (tCB rListA (tCons (tVar 2) tNil)) tNil)))) (tCons (tC (.bl false)) tNil))))) (tRet (tC (.bl false))) tNext)
      (tSeq (tIfS (tTest (tOp rEq (tVar 3) (tC (.int 1)))) (tRet (tC (.bl true))) tNext)
      (tRet (tCall spSays [] E0 (tCons (tOp (rOwn2 C (spOEq C) E0) (tVar 0) (tMake C (spOrder C BO) [] E0 (tCons (tVar 1) (tCons (tOp rCat (tSl rSlA (tVar 2) (tPart (tC (.int 1))) tNoPart) (tSl rSlA (tVar 2) tNoPart (tPart (tC (.int 1))))) tNil)))) (tCons (tC (.bl false)) tNil)))))
      { nx := fun x H' => Q V.non H', rt := Q } [some (.ref p), some (.str kd), some (.ref r), some (.int rk.length), some (.str other)] H' := by
    intro other H' s hk hne
    rw [x_seq]
    simp only [x_if, x_test, x_B, x_op, x_un, x_varS, x_var0, x_c, x_I0, x_I, x_U, x_bl, x_ret, x_next, x_eqS, x_neS, x_m0, x_m1, x_isStr, x_SM, x_addT, x_slS, x_lenS, x_strI, x_mulS, x_startT, x_findT, x_preT, x_lstT, x_ascT, x_digT, x_jn, x_js0, x_js1, x_isS, x_fmt, x_fmtS, x_divW, x_truK, x_truS, x_raiseT, x_asg, x_name, x_set0, x_setS, x_drop, x_cb, x_cons, x_nil, x_int1, x_abs1, x_max2, x_gcd, x_gsub, x_sl, x_part, x_nopart, x_int, x_call, x_lst, x_tup, x_not, x_and, x_or, x_andV, x_orV, x_notV, x_ifE, x_eqI, x_neI, x_eqB, x_neB, x_tbm, x_never, x_make, x_meth, x_isII, x_isIC, x_bool1, decide_eq_true_eq, Bool.false_eq_true, if_false, if_true, List.append_nil, List.nil_append, List.cons_append]
    refine ⟨r, rk.map V.int, rfl, .inl (s _ _ hr), fun l hl => ?_⟩
    have s5 : Same H (upd H' l (.lst (rk.map V.int))) := Same.new' s hl
    refine eq_made (ho.same s5) ⟨hk, g.lo, g.hi, g.perm⟩ (.inl upd_same) (decide_eq_false fun z => hne z.1) fun H3 s6 => ?_
    have s56 := s5.trans s6
    simp only [x_if, x_test, x_B, x_op, x_un, x_varS, x_var0, x_c, x_I0, x_I, x_U, x_bl, x_ret, x_next, x_eqS, x_neS, x_m0, x_m1, x_isStr, x_SM, x_addT, x_slS, x_lenS, x_strI, x_mulS, x_startT, x_findT, x_preT, x_lstT, x_ascT, x_digT, x_jn, x_js0, x_js1, x_isS, x_fmt, x_fmtS, x_divW, x_truK, x_truS, x_raiseT, x_asg, x_name, x_set0, x_setS, x_drop, x_cb, x_cons, x_nil, x_int1, x_abs1, x_max2, x_gcd, x_gsub, x_sl, x_part, x_nopart, x_int, x_call, x_lst, x_tup, x_not, x_and, x_or, x_andV, x_orV, x_notV, x_ifE, x_eqI, x_neI, x_eqB, x_neB, x_tbm, x_never, x_make, x_meth, x_isII, x_isIC, x_bool1, decide_eq_true_eq, Bool.false_eq_true, if_false, if_true, List.append_nil, List.nil_append, List.cons_append, Bool.not_true]
    try rw [x_seq]
    simp only [x_if, x_test, x_B, x_op, x_un, x_varS, x_var0, x_c, x_I0, x_I, x_U, x_bl, x_ret, x_next, x_eqS, x_neS, x_m0, x_m1, x_isStr, x_SM, x_addT, x_slS, x_lenS, x_strI, x_mulS, x_startT, x_findT, x_preT, x_lstT, x_ascT, x_digT, x_jn, x_js0, x_js1, x_isS, x_fmt, x_fmtS, x_divW, x_truK, x_truS, x_raiseT, x_asg, x_name, x_set0, x_setS, x_drop, x_cb, x_cons, x_nil, x_int1, x_abs1, x_max2, x_gcd, x_gsub, x_sl, x_part, x_nopart, x_int, x_call, x_lst, x_tup, x_not, x_and, x_or, x_andV, x_orV, x_notV, x_ifE, x_eqI, x_neI, x_eqB, x_neB, x_tbm, x_never, x_make, x_meth, x_isII, x_isIC, x_bool1, decide_eq_true_eq, Bool.false_eq_true, if_false, if_true, List.append_nil, List.nil_append, List.cons_append]
    refine ite2 (fun _ => k H3 s56) fun hn1 => ?_
    have hn2 : 2 ≤ rk.length := by omega
    refine ⟨r, rk.map V.int, rfl, s56 _ _ hr, fun q1 hq1 => ⟨r, rk.map V.int, rfl, Same.new hq1 _ _ (s56 _ _ hr), fun q2 hq2 => ?_⟩⟩
    have c1 := cutV_from (rk.map V.int) (c := 1) (by rw [List.length_map]; omega)
    have c2 := cutV_to (rk.map V.int) (c := 1) (by rw [List.length_map]; omega)
    have one : ((1 : Nat) : Int) = 1 := rfl
    rw [one] at c1 c2
    rw [c1] at hq2 ⊢
    rw [c2]
    have t1 : Same H3 (upd (upd H3 q1 (.lst ((rk.map V.int).drop 1))) q2 (.lst ((rk.map V.int).take 1))) := Same.new' (Same.new hq1) hq2
    have u1 : (upd (upd H3 q1 (.lst ((rk.map V.int).drop 1))) q2 (.lst ((rk.map V.int).take 1))) q1 = some (.lst ((rk.map V.int).drop 1)) := Same.new hq2 _ _ upd_same
    have u2 : (upd (upd H3 q1 (.lst ((rk.map V.int).drop 1))) q2 (.lst ((rk.map V.int).take 1))) q2 = some (.lst ((rk.map V.int).take 1)) := upd_same
    generalize (upd (upd H3 q1 (.lst ((rk.map V.int).drop 1))) q2 (.lst ((rk.map V.int).take 1))) = H4 at t1 u1 u2 ⊢
    try dsimp only
    rw [x_cat u1 u2 (by rw [List.length_take, List.length_drop, List.length_map]; exact Nat.le_trans (show rk.length - 1 + min 1 rk.length ≤ 10 by omega) (by decide))]
    intro q3 hq3
    have s7 : Same H (upd H4 q3 (.lst ((rk.map V.int).drop 1 ++ (rk.map V.int).take 1))) := Same.new' (s56.trans t1) hq3
    have er : (rk.map V.int).drop 1 ++ (rk.map V.int).take 1 = (rk.drop 1 ++ rk.take 1).map V.int := by rw [List.map_append, List.map_drop, List.map_take]
    have pr : (rk.drop 1 ++ rk.take 1).Perm rk := List.perm_append_comm.trans (by rw [List.take_append_drop])
    have gr : GoodO kd (rk.drop 1 ++ rk.take 1) := ⟨g.kind, by rw [pr.length_eq]; exact g.lo, by rw [pr.length_eq]; exact g.hi, by rw [pr.length_eq]; exact pr.trans g.perm⟩
    refine eq_made (ho.same s7) gr (.inl (by rw [upd_same, er])) (decide_eq_false fun z => ?_) fun H5 s8 => k H5 (s7.trans s8)
    have nd : rk.Nodup := g.perm.nodup_iff.mpr (by
      unfold rng
      exact List.Pairwise.map _ (fun a b h => by omega) (List.nodup_range (n := rk.length)))
    match rk, hn2, nd, z.2 with
    | x :: y :: t, _, nd, e =>
      have : x = y := (List.cons.inj e).1
      simp [this] at nd
  try rw [x_seq]
  try simp only [x_if, x_test, x_B, x_op, x_un, x_varS, x_var0, x_c, x_I0, x_I, x_U, x_bl, x_ret, x_next, x_eqS, x_neS, x_m0, x_m1, x_isStr, x_SM, x_addT, x_slS, x_lenS, x_strI, x_mulS, x_startT, x_findT, x_preT, x_lstT, x_ascT, x_digT, x_jn, x_js0, x_js1, x_isS, x_fmt, x_fmtS, x_divW, x_truK, x_truS, x_raiseT, x_asg, x_name, x_set0, x_setS, x_drop, x_cb, x_cons, x_nil, x_int1, x_abs1, x_max2, x_gcd, x_gsub, x_sl, x_part, x_nopart, x_int, x_call, x_lst, x_tup, x_not, x_and, x_or, x_andV, x_orV, x_notV, x_ifE, x_eqI, x_neI, x_eqB, x_neB, x_tbm, x_never, x_make, x_meth, x_isII, x_isIC, x_bool1, decide_eq_true_eq, Bool.false_eq_true, if_false, if_true, List.append_nil, List.nil_append, List.cons_append]
  refine ite2 (fun h => ?_) fun h => ?_
  · exact rest _ H2 s34 (.inl rfl) (fun e => by
      have h2 : kd = ("variables" : Str) := by simpa using h
      rw [e] at h2
      exact absurd h2 (by decide +kernel))
  · exact rest _ H2 s34 (.inr rfl) (fun e => h (by simpa using e))
end
end SpX

set_option Elab.async false
set_option linter.all false
set_option maxRecDepth 100000
set_option maxHeartbeats 4000000
/-! Law k26: orders made of any words and rankings. -/
namespace SpX
open PySem PySem.Spec L2 StX RZ
def spOMade (C : Addr) : Sp := fun vs H Q _ => ∃ (r : Addr) (kd : Str) (rk : List Int), vs = [.str kd, .ref r] ∧ H r = some (.lst (rk.map V.int)) ∧ rk.length ≤ 10 ∧ ∀ H', Same H H' → Q (.bl true) H'
def t_omade_1 (K : PySem.W.Frag) (C Z BO f_oplace : Addr) (E : XK) : TS :=
    (tSeq (tFor (iRng1 (tCons (tCB rLenA (tCons (tVar 1) tNil)) tNil)) (gName 3) ((tAsg (tAndV (tVar 2) (tOp (rIn K false) (tVar 3) (tVar 1))) (gName 2))))
    (tSeq (tIfS (tB (tVar 2)) (tRet (tAndV (tCall (spOIs C) [] E0 (tCons (tMake C (spOrder C BO) [] E0 (tCons (tVar 0) (tCons (tVar 1) tNil))) (tCons (tVar 0) (tCons (tVar 1) tNil)))) (tCall (spOIs C) [] E0 (tCons (tMake C (spOrder C BO) [] E0 (tCons (tVar 0) (tCons (tCB rTupA (tCons (tVar 1) tNil)) tNil))) (tCons (tVar 0) (tCons (tVar 1) tNil)))))) tNext)
    (tRet (tAndV (tCall (spNOrd C BO) [] E0 (tCons (tVar 0) (tCons (tVar 1) tNil))) (tCall (spNOrd C BO) [] E0 (tCons (tVar 0) (tCons (tCB rTupA (tCons (tVar 1) tNil)) tNil)))))))
def t_omade (K : PySem.W.Frag) (C Z BO f_oplace : Addr) (E : XK) : TS :=
    (tSeq (tAsg (tAndV (tOp (rIn K false) (tVar 0) (tLst (tCons (tC (.str "degree")) (tCons (tC (.str "variables")) tNil)))) (tOp (rIn K false) (tCB rLenA (tCons (tVar 1) tNil)) (tLst (tCons (tC (.int 1)) (tCons (tC (.int 2)) (tCons (tC (.int 3)) tNil)))))) (gName 2))
    (tSeq (tFor (iRng1 (tCons (tCB rLenA (tCons (tVar 1) tNil)) tNil)) (gName 3) ((tAsg (tAndV (tVar 2) (tOp (rIn K false) (tVar 3) (tVar 1))) (gName 2))))
    (tSeq (tIfS (tB (tVar 2)) (tRet (tAndV (tCall (spOIs C) [] E0 (tCons (tMake C (spOrder C BO) [] E0 (tCons (tVar 0) (tCons (tVar 1) tNil))) (tCons (tVar 0) (tCons (tVar 1) tNil)))) (tCall (spOIs C) [] E0 (tCons (tMake C (spOrder C BO) [] E0 (tCons (tVar 0) (tCons (tCB rTupA (tCons (tVar 1) tNil)) tNil))) (tCons (tVar 0) (tCons (tVar 1) tNil)))))) tNext)
    (tRet (tAndV (tCall (spNOrd C BO) [] E0 (tCons (tVar 0) (tCons (tVar 1) tNil))) (tCall (spNOrd C BO) [] E0 (tCons (tVar 0) (tCons (tCB rTupA (tCons (tVar 1) tNil)) tNil))))))))
theorem all_flat (rk : List Int) : (rk.map V.int).all flatV = true := by
  rw [List.all_map]
  exact List.all_eq_true.mpr fun _ _ => rfl
theorem inV_int (x : Int) (rk : List Int) : inV (.int x) (rk.map V.int) = decide (x ∈ rk) := by
  unfold inV
  rw [List.any_map]
  rw [Bool.eq_iff_iff, List.any_eq_true, decide_eq_true_iff]
  refine ⟨fun ⟨y, hy, e⟩ => ?_, fun h => ⟨x, h, ?_⟩⟩
  · have : y = x := by simpa [eqV] using e
    rw [← this]
    exact hy
  · simp [eqV]
theorem inV_word (kd : Str) : inV (.str kd) [.str "degree", .str "variables"] = decide (kd = ("degree" : Str) ∨ kd = ("variables" : Str)) := by
  unfold inV
  simp only [List.any_cons, List.any_nil, Bool.or_false, eqV]
  rw [Bool.eq_iff_iff, Bool.or_eq_true, decide_eq_true_iff, beq_iff_eq, beq_iff_eq]
  exact ⟨fun h => h.imp Eq.symm Eq.symm, fun h => h.imp Eq.symm Eq.symm⟩
theorem perm_sub : ∀ {l m : List Int}, l.Nodup → l ⊆ m → l.length = m.length → m.Perm l
  | [], m, _, _, h => by
    rw [List.eq_nil_of_length_eq_zero (l := m) h.symm]
  | x :: t, m, nd, sub, h => by
    obtain ⟨hx, nt⟩ := List.nodup_cons.mp nd
    have hm : x ∈ m := sub List.mem_cons_self
    refine (List.perm_cons_erase hm).trans (.cons x (perm_sub nt (fun y hy => ?_) ?_))
    · exact (List.mem_erase_of_ne (fun e => hx (by rw [← e]; exact hy))).mpr (sub (List.mem_cons_of_mem _ hy))
    · rw [List.length_erase_of_mem hm]
      rw [List.length_cons] at h
      omega
theorem good_iff (kd : Str) (rk : List Int) : GoodO kd rk ↔ (kd = ("degree" : Str) ∨ kd = ("variables" : Str)) ∧ (rk.length : Int) ∈ [(1 : Int), 2, 3] ∧ ∀ i : Nat, i < rk.length → (i : Int) ∈ rk := by
  refine ⟨fun g => ⟨g.kind, ?_, fun i hi => g.perm.mem_iff.mpr (List.mem_map.mpr ⟨i, List.mem_range.mpr hi, rfl⟩)⟩, fun ⟨h1, h2, h3⟩ => ?_⟩
  · have := g.lo
    have := g.hi
    simp
    omega
  · have h2' : rk.length = 1 ∨ rk.length = 2 ∨ rk.length = 3 := by
      simp at h2
      omega
    refine ⟨h1, by omega, by omega, ?_⟩
    have nd : (rng rk.length).Nodup := by
      unfold rng
      exact List.Pairwise.map _ (fun a b h => by omega) (List.nodup_range (n := rk.length))
    have sub : rng rk.length ⊆ rk := fun x hx => by
      obtain ⟨i, hi, rfl⟩ := List.mem_map.mp hx
      exact h3 i (List.mem_range.mp hi)
    have e : (rng rk.length).length = rk.length := by unfold rng; rw [List.length_map, List.length_range]
    exact perm_sub nd sub e
section
variable {K : PySem.W.Frag} {C Z BO f_oplace : Addr}
theorem omade_1 {H : Hp} {Q : VK} {E : XK} {r : Addr} {kd : Str} {rk : List Int} {g0 : Bool} (hr : H r = some (.lst (rk.map V.int))) (hz : rk.length ≤ 10) (hg : g0 = true ↔ (kd = ("degree" : Str) ∨ kd = ("variables" : Str)) ∧ (rk.length : Int) ∈ [(1 : Int), 2, 3]) (k : ∀ H', Same H H' → Q (.bl true) H') :
    t_omade_1 K C Z BO f_oplace E { nx := fun _ H' => Q .non H', rt := Q } [some (.str kd), some (.ref r), some (.bl g0), none] H := by
  unfold t_omade_1
  rw [x_seq]
  refine for_rngE (j := (rk.length : Int)) (fun QA => by simp only [x_if, x_test, x_B, x_op, x_un, x_varS, x_var0, x_c, x_I0, x_I, x_U, x_bl, x_ret, x_next, x_eqS, x_neS, x_m0, x_m1, x_isStr, x_SM, x_addT, x_slS, x_lenS, x_strI, x_mulS, x_startT, x_findT, x_preT, x_lstT, x_ascT, x_digT, x_jn, x_js0, x_js1, x_isS, x_fmt, x_fmtS, x_divW, x_truK, x_truS, x_raiseT, x_asg, x_name, x_set0, x_setS, x_drop, x_cb, x_cons, x_nil, x_int1, x_abs1, x_max2, x_gcd, x_gsub, x_sl, x_part, x_nopart, x_int, x_call, x_lst, x_tup, x_not, x_and, x_or, x_andV, x_orV, x_notV, x_ifE, x_eqI, x_neI, x_eqB, x_neB, x_tbm, x_never, x_make, x_meth, x_isII, x_isIC, x_bool1, decide_eq_true_eq, Bool.false_eq_true, if_false, if_true, List.append_nil, List.nil_append, List.cons_append, x_lenA hr, List.length_map]) (by omega) (fun i σ H' => H' = H ∧ ∃ (g : Bool) (w : Option V), σ = [some (.str kd), some (.ref r), some (.bl g), w] ∧ (g = true ↔ g0 = true ∧ ∀ j : Nat, j < i → (j : Int) ∈ rk)) ⟨rfl, g0, none, rfl, ⟨fun h => ⟨h, fun j hj => absurd hj (Nat.not_lt_zero j)⟩, fun h => h.1⟩⟩ ?_ ?_
  · rintro i σ H' hi ⟨rfl, g, w, rfl, hg'⟩
    simp only [x_if, x_test, x_B, x_op, x_un, x_varS, x_var0, x_c, x_I0, x_I, x_U, x_bl, x_ret, x_next, x_eqS, x_neS, x_m0, x_m1, x_isStr, x_SM, x_addT, x_slS, x_lenS, x_strI, x_mulS, x_startT, x_findT, x_preT, x_lstT, x_ascT, x_digT, x_jn, x_js0, x_js1, x_isS, x_fmt, x_fmtS, x_divW, x_truK, x_truS, x_raiseT, x_asg, x_name, x_set0, x_setS, x_drop, x_cb, x_cons, x_nil, x_int1, x_abs1, x_max2, x_gcd, x_gsub, x_sl, x_part, x_nopart, x_int, x_call, x_lst, x_tup, x_not, x_and, x_or, x_andV, x_orV, x_notV, x_ifE, x_eqI, x_neI, x_eqB, x_neB, x_tbm, x_never, x_make, x_meth, x_isII, x_isIC, x_bool1, decide_eq_true_eq, Bool.false_eq_true, if_false, if_true, List.append_nil, List.nil_append, List.cons_append]
    cases g with
    | true =>
      rw [if_pos rfl]
      refine ⟨r, rk.map V.int, rfl, .inl (SqL.at hr), rfl, all_flat rk, ?_⟩
      rw [if_neg (by decide), inV_int]
      refine ⟨rfl, _, _, rfl, ?_⟩
      rw [decide_eq_true_iff]
      obtain ⟨a, b⟩ := hg'.mp rfl
      exact ⟨fun h => ⟨a, fun j hj => by
        rcases Nat.lt_succ_iff_lt_or_eq.mp hj with h1 | h1
        · exact b j h1
        · rw [h1]; exact h⟩, fun h => h.2 i (Nat.lt_succ_self i)⟩
    | false =>
      rw [if_neg (by decide)]
      refine ⟨trivial, _, _, rfl, ⟨fun h => Bool.noConfusion h, fun h => absurd (hg'.mpr ⟨h.1, fun j hj => h.2 j (Nat.lt_succ_of_lt hj)⟩) (by decide)⟩⟩
  · rintro σ H' ⟨rfl, g, w, rfl, hg'⟩
    rw [Int.toNat_natCast] at hg'
    have hgood : g = true ↔ GoodO kd rk := by
      rw [hg', hg, good_iff]
      exact ⟨fun h => ⟨h.1.1, h.1.2, h.2⟩, fun h => ⟨⟨h.1, h.2.1⟩, h.2.2⟩⟩
    dsimp only
    rw [x_seq]
    simp only [x_if, x_test, x_B, x_op, x_un, x_varS, x_var0, x_c, x_I0, x_I, x_U, x_bl, x_ret, x_next, x_eqS, x_neS, x_m0, x_m1, x_isStr, x_SM, x_addT, x_slS, x_lenS, x_strI, x_mulS, x_startT, x_findT, x_preT, x_lstT, x_ascT, x_digT, x_jn, x_js0, x_js1, x_isS, x_fmt, x_fmtS, x_divW, x_truK, x_truS, x_raiseT, x_asg, x_name, x_set0, x_setS, x_drop, x_cb, x_cons, x_nil, x_int1, x_abs1, x_max2, x_gcd, x_gsub, x_sl, x_part, x_nopart, x_int, x_call, x_lst, x_tup, x_not, x_and, x_or, x_andV, x_orV, x_notV, x_ifE, x_eqI, x_neI, x_eqB, x_neB, x_tbm, x_never, x_make, x_meth, x_isII, x_isIC, x_bool1, decide_eq_true_eq, Bool.false_eq_true, if_false, if_true, List.append_nil, List.nil_append, List.cons_append]
    cases g with
    | true =>
      have gg := hgood.mp rfl
      rw [if_pos rfl]
      intro p1 dx1 np nd ne
      refine order_yes (.inl hr) gg np nd ne fun H1 o1 s1 => ?_
      refine ⟨p1, r, kd, rk, rfl, o1, gg, s1 _ _ hr, true, rfl, ?_⟩
      rw [if_pos rfl]
      refine ⟨r, rk.map V.int, rfl, .inl ⟨s1 _ _ hr, fun t ht => ?_⟩⟩
      have s2 := Same.new' (o := .tup (rk.map V.int)) s1 ht
      intro p2 dx2 np2 nd2 ne2
      refine order_yes (.inr upd_same) gg np2 nd2 ne2 fun H3 o3 s3 => ?_
      exact ⟨p2, r, kd, rk, rfl, o3, gg, (s2.trans s3) _ _ hr, k H3 (s2.trans s3)⟩
    | false =>
      have gg : ¬ GoodO kd rk := fun h => absurd (hgood.mpr h) (by decide)
      rw [if_neg (by decide)]
      refine ⟨r, kd, rk, rfl, .inl hr, by omega, gg, fun H1 s1 => ⟨true, rfl, ?_⟩⟩
      rw [if_pos rfl]
      refine ⟨r, rk.map V.int, rfl, .inl ⟨s1 _ _ hr, fun t ht => ?_⟩⟩
      exact ⟨t, kd, rk, rfl, .inr upd_same, by omega, gg, fun H2 s2 => k H2 ((Same.new' s1 ht).trans s2)⟩
theorem pure_omade (vs : List V) (H : Hp) (Q : VK) (E : XK) (h : spOMade C vs H Q E) : t_omade K C Z BO f_oplace E { nx := fun _ H' => Q .non H', rt := Q } (start ["word", "told", "good", "k"] vs) H := by
  obtain ⟨r, kd, rk, rfl, hr, hz, k⟩ := h
  show t_omade K C Z BO f_oplace E _ [some (.str kd), some (.ref r), none, none] H
  unfold t_omade
  rw [x_seq]
  simp only [x_if, x_test, x_B, x_op, x_un, x_varS, x_var0, x_c, x_I0, x_I, x_U, x_bl, x_ret, x_next, x_eqS, x_neS, x_m0, x_m1, x_isStr, x_SM, x_addT, x_slS, x_lenS, x_strI, x_mulS, x_startT, x_findT, x_preT, x_lstT, x_ascT, x_digT, x_jn, x_js0, x_js1, x_isS, x_fmt, x_fmtS, x_divW, x_truK, x_truS, x_raiseT, x_asg, x_name, x_set0, x_setS, x_drop, x_cb, x_cons, x_nil, x_int1, x_abs1, x_max2, x_gcd, x_gsub, x_sl, x_part, x_nopart, x_int, x_call, x_lst, x_tup, x_not, x_and, x_or, x_andV, x_orV, x_notV, x_ifE, x_eqI, x_neI, x_eqB, x_neB, x_tbm, x_never, x_make, x_meth, x_isII, x_isIC, x_bool1, decide_eq_true_eq, Bool.false_eq_true, if_false, if_true, List.append_nil, List.nil_append, List.cons_append]
  refine ⟨by show 2 ≤ sizeLine; decide, fun p hp => ?_⟩
  have s1 : Same H (upd H p (.lst [.str "degree", .str "variables"])) := Same.new hp
  refine ⟨p, _, rfl, .inl (SqL.at upd_same), rfl, rfl, ?_⟩
  rw [if_neg (by decide), inV_word]
  refine ⟨_, rfl, ite2 (fun h => ?_) fun h => ?_⟩
  · rw [x_lenA (s1 _ _ hr)]
    refine ⟨by show 3 ≤ sizeLine; decide, fun p2 hp2 => ?_⟩
    have s2 := Same.new' (o := .lst [.int 1, .int 2, .int 3]) s1 hp2
    refine ⟨p2, [1, 2, 3].map V.int, rfl, .inl (SqL.at upd_same), rfl, rfl, ?_⟩
    rw [if_neg (by decide), inV_int, List.length_map]
    refine omade_1 (K := K) (C := C) (Z := Z) (BO := BO) (f_oplace := f_oplace) (E := E) (s2 _ _ hr) hz ?_ fun H' s => k H' (s2.trans s)
    rw [decide_eq_true_iff]
    exact ⟨fun q => ⟨by simpa using h, q⟩, fun q => q.2⟩
  · refine omade_1 (K := K) (C := C) (Z := Z) (BO := BO) (f_oplace := f_oplace) (E := E) (s1 _ _ hr) hz ?_ fun H' s => k H' (s1.trans s)
    exact ⟨fun q => Bool.noConfusion q, fun q => absurd (by simpa using q.1) h⟩
end
end SpX

set_option Elab.async false
set_option linter.all false
set_option maxRecDepth 100000
set_option maxHeartbeats 4000000
/-! Law k26: lists put in order by an order. -/
namespace SpX
open PySem PySem.Spec L2 StX RZ
/-- what sorted(..) gives: the rows, in order -/
theorem sort_rows {H : Hp} {es : List Addr} {nss : List (List Int)} {kd : Str} {rk : List Int} (h : RowsAt H es nss) : ∃ es' nss', sortBy (es.map V.ref) (nss.map (okey kd rk)) = es'.map V.ref ∧ RowsAt H es' nss' ∧ nss'.Perm nss ∧ Asc kd rk nss' := by
  obtain ⟨hl, hr⟩ := h
  have key : ((es.map V.ref).zip (nss.map (okey kd rk))).mergeSort (fun p q => decide (p.2 ≤ q.2)) = ((es.zip nss).mergeSort (fun p q => decide (okey kd rk p.2 ≤ okey kd rk q.2))).map (fun p => (V.ref p.1, okey kd rk p.2)) := by
    rw [List.map_mergeSort (s := fun (p q : V × List Int) => decide (p.2 ≤ q.2)) (fun _ _ _ _ => rfl), List.zip_map]
    rfl
  refine ⟨((es.zip nss).mergeSort (fun p q => decide (okey kd rk p.2 ≤ okey kd rk q.2))).map (·.1), ((es.zip nss).mergeSort (fun p q => decide (okey kd rk p.2 ≤ okey kd rk q.2))).map (·.2), ?_, ⟨by rw [List.length_map, List.length_map], fun i q ns hq hn => ?_⟩, ?_, ?_⟩
  · unfold sortBy
    rw [key, List.map_map, List.map_map]
    rfl
  · rw [List.getElem?_map] at hq hn
    cases e : ((es.zip nss).mergeSort (fun p q => decide (okey kd rk p.2 ≤ okey kd rk q.2)))[i]? with
    | none => rw [e] at hq; cases hq
    | some p =>
      rw [e] at hq hn
      cases hq
      cases hn
      have hm : p ∈ es.zip nss := (List.mergeSort_perm _ _).mem_iff.mp (List.mem_of_getElem? e)
      obtain ⟨j, hj⟩ := List.getElem?_of_mem hm
      rw [List.getElem?_zip_eq_some] at hj
      exact hr j _ _ hj.1 hj.2
  · have := (List.mergeSort_perm (es.zip nss) (fun p q => decide (okey kd rk p.2 ≤ okey kd rk q.2))).map (·.2)
    rwa [List.map_snd_zip (by omega)] at this
  · unfold Asc
    rw [List.pairwise_map]
    refine (List.pairwise_mergeSort (fun a b c h1 h2 => ?_) (fun a b => ?_) (es.zip nss)).imp fun h => of_decide_eq_true h
    · exact decide_eq_true (List.le_trans (of_decide_eq_true h1) (of_decide_eq_true h2))
    · rw [Bool.or_eq_true, decide_eq_true_iff, decide_eq_true_iff]
      exact List.le_total _ _
theorem dp_rows {K : PySem.W.Frag} {H : Hp} : ∀ {es : List Addr} {nss : List (List Int)}, RowsAt H es nss → DpAll K H (es.map V.ref) (nss.map tupD)
  | [], [], _ => .nil
  | [], _ :: _, h => by have := h.1; simp at this
  | _ :: _, [], h => by have := h.1; simp at this
  | e :: es, ns :: nss, h => .cons (dp_tup (h.2 0 e ns rfl rfl)) (dp_rows ⟨by have := h.1; simpa using this, fun i q ms a b => h.2 (i + 1) q ms (by simpa using a) (by simpa using b)⟩)
theorem depth_rows : ∀ nss : List (List Int), PyData.depthAll (nss.map tupD) ≤ 1
  | [] => by simp [PyData.depthAll]
  | k :: r => by
    have h1 : (tupD k).depth ≤ 1 := by
      unfold tupD
      simp only [PyData.depth, depth_ints]
      omega
    have := depth_rows r
    simp only [List.map_cons, PyData.depthAll]
    omega
theorem depth_lrows (nss : List (List Int)) : (PyData.list (nss.map tupD)).depth ≤ 64 := by
  have := depth_rows nss
  simp only [PyData.depth]
  omega
theorem eqv_rows (a b : List (List Int)) : PyData.eqv (.list (a.map tupD)) (.list (b.map tupD)) = decide (a = b) := by
  rw [PyData.eqv, eqv_tups]
theorem dp_lrows {K : PySem.W.Frag} {H : Hp} {l : Addr} {es : List Addr} {nss : List (List Int)} (hl : H l = some (.lst (es.map V.ref))) (h : RowsAt H es nss) : Dp K H (.ref l) (.list (nss.map tupD)) := .lst (SqL.at hl) (dp_rows h)
def spOArrs (C : Addr) : Sp := fun vs H Q _ => ∃ (p r l : Addr) (kd : Str) (rk : List Int) (es : List Addr) (nss : List (List Int)), vs = [.ref p, .str kd, .ref r, .ref l] ∧ OrdAt C H p kd rk ∧ GoodO kd rk ∧ H r = some (.lst (rk.map V.int)) ∧ H l = some (.lst (es.map V.ref)) ∧ RowsAt H es nss ∧ (∀ ns ∈ nss, ns.length = rk.length) ∧ es.length ≤ 100 ∧
  ∀ H', Same H H' → Q (.bl true) H'
def t_oarrs (K : PySem.W.Frag) (C Z BO f_oplace : Addr) (E : XK) : TS :=
    (tSeq (tAsg (tCall spOAsc [] E0 (tCons (tVar 1) (tCons (tVar 2) (tCons (tVar 3) tNil)))) (gName 4))
    (tSeq (tAsg (tCB rListA (tCons (tVar 3) tNil)) (gName 5))
    (tSeq (tAsg (tMeth C "arranged" (spOArr C Z) [] E0 (tVar 0) (tCons (tVar 5) tNil)) (gName 6))
    (tSeq (tIfS (tOr (tNot (tB (tCB rIsB (tCons (tVar 6) (tCons (tC (.ty "list")) tNil))))) (tOr (tTest (tOp (rNeP K) (tVar 6) (tVar 4))) (tTest (tOp (rNeP K) (tVar 5) (tVar 3))))) (tRet (tC (.bl false))) tNext)
    (tSeq (tFor (iList K (tVar 6)) (gName 7) ((tIfS (tNot (tB (tCB rIsB (tCons (tVar 7) (tCons (tC (.ty "tuple")) tNil))))) (tRet (tC (.bl false))) tNext)))
    (tSeq (tDrop (tBM K "list" rAppend (tVar 6) (tCons (tCB rTupA (tCons (tOp rRep (tLst (tCons (tC (.int 0)) tNil)) (tCB rLenA (tCons (tVar 2) tNil))) tNil)) tNil)))
    (tSeq (tDrop (tBM K "list" rAppend (tVar 5) (tCons (tCB rTupA (tCons (tOp rRep (tLst (tCons (tC (.int 9)) tNil)) (tCB rLenA (tCons (tVar 2) tNil))) tNil)) tNil)))
    (tSeq (tAsg (tMeth C "arranged" (spOArr C Z) [] E0 (tVar 0) (tCons (tCB rTupA (tCons (tVar 3) tNil)) tNil)) (gName 8))
    (tRet (tAndV (tCB rIsB (tCons (tVar 8) (tCons (tC (.ty "list")) tNil))) (tAndV (tOp (rEqP K) (tVar 8) (tVar 4)) (tOp (rEqP K) (tMeth C "arranged" (spOArr C Z) [] E0 (tVar 0) (tCons (tLst tNil) tNil)) (tLst tNil)))))))))))))
section
variable {K : PySem.W.Frag} {C Z BO f_oplace : Addr}
theorem ne_rows {H : Hp} {Q : VK} {l m : Addr} {es es' : List Addr} {nss : List (List Int)} (hl : H l = some (.lst (es.map V.ref))) (h : RowsAt H es nss) (hm : H m = some (.lst (es'.map V.ref))) (h' : RowsAt H es' nss) (k : Q (.bl false) H) : rNeP K (.ref l) (.ref m) H Q := by
  refine ⟨.list (nss.map tupD), .list (nss.map tupD), dp_lrows hl h, dp_lrows hm h', plain_tups _, plain_tups _, depth_lrows _, ?_⟩
  rw [eqv_rows, decide_eq_true rfl]
  exact k
theorem eq_rows {H : Hp} {Q : VK} {l m : Addr} {es es' : List Addr} {nss : List (List Int)} (hl : H l = some (.lst (es.map V.ref))) (h : RowsAt H es nss) (hm : H m = some (.lst (es'.map V.ref))) (h' : RowsAt H es' nss) (k : Q (.bl true) H) : rEqP K (.ref l) (.ref m) H Q := by
  refine ⟨.list (nss.map tupD), .list (nss.map tupD), dp_lrows hl h, dp_lrows hm h', plain_tups _, plain_tups _, depth_lrows _, ?_⟩
  rw [eqv_rows, decide_eq_true rfl]
  exact k
theorem rep_tup {H : Hp} {p : Addr} {x : V} {n : Nat} {Q : VK} (hp : H p = some (.lst [x])) (hn : n ≤ 10) (k : ∀ t H', Same H H' → (∃ xs, H' t = some (.tup xs)) → Q (.ref t) H') : rRep (.ref p) (.int n) H (fun x H1 => rTupA [x] H1 Q) := by
  refine ⟨p, n, [x], rfl, rfl, hp, by omega, by omega, ?_, fun q hq => ?_⟩
  · show 1 * (n : Int).toNat ≤ sizeLine
    rw [Int.toNat_natCast]
    exact Nat.le_trans (show 1 * n ≤ 10 by omega) (by decide)
  · refine ⟨q, _, rfl, .inl ⟨upd_same, fun t ht => k t _ (Same.new' (Same.new hq) ht) ⟨_, upd_same⟩⟩⟩
theorem pure_oarrs (vs : List V) (H : Hp) (Q : VK) (E : XK) (h : spOArrs C vs H Q E) : t_oarrs K C Z BO f_oplace E { nx := fun _ H' => Q .non H', rt := Q } (start ["order", "kind", "ranking", "places", "due", "handed", "told", "place", "again"] vs) H := by
  obtain ⟨p, r, l, kd, rk, es, nss, rfl, ho, g, hr, hl, hrow, hlen, hz, k⟩ := h
  show t_oarrs K C Z BO f_oplace E _ [some (.ref p), some (.str kd), some (.ref r), some (.ref l), none, none, none, none, none] H
  have llen := hrow.1
  unfold t_oarrs
  rw [x_seq]
  simp only [x_if, x_test, x_B, x_op, x_un, x_varS, x_var0, x_c, x_I0, x_I, x_U, x_bl, x_ret, x_next, x_eqS, x_neS, x_m0, x_m1, x_isStr, x_SM, x_addT, x_slS, x_lenS, x_strI, x_mulS, x_startT, x_findT, x_preT, x_lstT, x_ascT, x_digT, x_jn, x_js0, x_js1, x_isS, x_fmt, x_fmtS, x_divW, x_truK, x_truS, x_raiseT, x_asg, x_name, x_set0, x_setS, x_drop, x_cb, x_cons, x_nil, x_int1, x_abs1, x_max2, x_gcd, x_gsub, x_sl, x_part, x_nopart, x_int, x_call, x_lst, x_tup, x_not, x_and, x_or, x_andV, x_orV, x_notV, x_ifE, x_eqI, x_neI, x_eqB, x_neB, x_tbm, x_never, x_make, x_meth, x_isII, x_isIC, x_bool1, decide_eq_true_eq, Bool.false_eq_true, if_false, if_true, List.append_nil, List.nil_append, List.cons_append]
  refine ⟨r, l, kd, rk, es, nss, rfl, g, hr, hl, hrow, hlen, hz, fun D H1 es1 nss1 s1 hD rows1 perm1 asc1 => ?_⟩
  try dsimp only
  rw [x_seq]
  simp only [x_if, x_test, x_B, x_op, x_un, x_varS, x_var0, x_c, x_I0, x_I, x_U, x_bl, x_ret, x_next, x_eqS, x_neS, x_m0, x_m1, x_isStr, x_SM, x_addT, x_slS, x_lenS, x_strI, x_mulS, x_startT, x_findT, x_preT, x_lstT, x_ascT, x_digT, x_jn, x_js0, x_js1, x_isS, x_fmt, x_fmtS, x_divW, x_truK, x_truS, x_raiseT, x_asg, x_name, x_set0, x_setS, x_drop, x_cb, x_cons, x_nil, x_int1, x_abs1, x_max2, x_gcd, x_gsub, x_sl, x_part, x_nopart, x_int, x_call, x_lst, x_tup, x_not, x_and, x_or, x_andV, x_orV, x_notV, x_ifE, x_eqI, x_neI, x_eqB, x_neB, x_tbm, x_never, x_make, x_meth, x_isII, x_isIC, x_bool1, decide_eq_true_eq, Bool.false_eq_true, if_false, if_true, List.append_nil, List.nil_append, List.cons_append]
  refine ⟨l, es.map V.ref, rfl, .inl (s1 _ _ hl), fun Hd hHd => ?_⟩
  have s2 : Same H1 (upd H1 Hd (.lst (es.map V.ref))) := Same.new hHd
  have eHd : (upd H1 Hd (.lst (es.map V.ref))) Hd = some (.lst (es.map V.ref)) := upd_same
  have nDH : D ≠ Hd := fun e => by rw [← e, hD] at hHd; cases hHd
  generalize (upd H1 Hd (.lst (es.map V.ref))) = H2 at s2 eHd ⊢
  have s12 := s1.trans s2
  obtain ⟨dx, o, hp, _⟩ := id (ho.same s12)
  try dsimp only
  rw [x_seq]
  simp only [x_if, x_test, x_B, x_op, x_un, x_varS, x_var0, x_c, x_I0, x_I, x_U, x_bl, x_ret, x_next, x_eqS, x_neS, x_m0, x_m1, x_isStr, x_SM, x_addT, x_slS, x_lenS, x_strI, x_mulS, x_startT, x_findT, x_preT, x_lstT, x_ascT, x_digT, x_jn, x_js0, x_js1, x_isS, x_fmt, x_fmtS, x_divW, x_truK, x_truS, x_raiseT, x_asg, x_name, x_set0, x_setS, x_drop, x_cb, x_cons, x_nil, x_int1, x_abs1, x_max2, x_gcd, x_gsub, x_sl, x_part, x_nopart, x_int, x_call, x_lst, x_tup, x_not, x_and, x_or, x_andV, x_orV, x_notV, x_ifE, x_eqI, x_neI, x_eqB, x_neB, x_tbm, x_never, x_make, x_meth, x_isII, x_isIC, x_bool1, decide_eq_true_eq, Bool.false_eq_true, if_false, if_true, List.append_nil, List.nil_append, List.cons_append]
  refine ⟨p, dx, _, rfl, hp, lk_arr, p, Hd, kd, rk, es, nss, rfl, ho.same s12, g, .inl eHd, hrow.same s12, by omega, fun ⟨ns, hn, hb⟩ => absurd (hlen ns hn) hb, fun _ q H3 nq s3 hq => ?_⟩
  obtain ⟨es', nss', e1, rows3, perm3, asc3⟩ := sort_rows (kd := kd) (rk := rk) ((hrow.same s12).same s3)
  rw [e1] at hq
  have en : nss' = nss1 := asc_unique g (fun x hx => hlen x (perm3.mem_iff.mp hx)) (perm3.trans perm1.symm) asc3 asc1
  subst en
  have s13 := s12.trans s3
  have rows1' := (rows1.same s2).same s3
  have hD3 := s3 _ _ (s2 _ _ hD)
  have hHd3 := s3 _ _ eHd
  try dsimp only
  rw [x_seq]
  simp only [x_if, x_test, x_B, x_op, x_un, x_varS, x_var0, x_c, x_I0, x_I, x_U, x_bl, x_ret, x_next, x_eqS, x_neS, x_m0, x_m1, x_isStr, x_SM, x_addT, x_slS, x_lenS, x_strI, x_mulS, x_startT, x_findT, x_preT, x_lstT, x_ascT, x_digT, x_jn, x_js0, x_js1, x_isS, x_fmt, x_fmtS, x_divW, x_truK, x_truS, x_raiseT, x_asg, x_name, x_set0, x_setS, x_drop, x_cb, x_cons, x_nil, x_int1, x_abs1, x_max2, x_gcd, x_gsub, x_sl, x_part, x_nopart, x_int, x_call, x_lst, x_tup, x_not, x_and, x_or, x_andV, x_orV, x_notV, x_ifE, x_eqI, x_neI, x_eqB, x_neB, x_tbm, x_never, x_make, x_meth, x_isII, x_isIC, x_bool1, decide_eq_true_eq, Bool.false_eq_true, if_false, if_true, List.append_nil, List.nil_append, List.cons_append, x_isLL hq, Bool.not_true]
  refine ne_rows hq rows3 hD3 rows1' ⟨_, rfl, ?_⟩
  rw [if_neg (by decide)]
  refine ne_rows hHd3 (hrow.same s13) (s13 _ _ hl) (hrow.same s13) ⟨_, rfl, ?_⟩
  rw [if_neg (by decide)]
  rw [x_seq]
  refine for_lstE (a := q) (xs := es'.map V.ref) (fun Q => by simp only [x_if, x_test, x_B, x_op, x_un, x_varS, x_var0, x_c, x_I0, x_I, x_U, x_bl, x_ret, x_next, x_eqS, x_neS, x_m0, x_m1, x_isStr, x_SM, x_addT, x_slS, x_lenS, x_strI, x_mulS, x_startT, x_findT, x_preT, x_lstT, x_ascT, x_digT, x_jn, x_js0, x_js1, x_isS, x_fmt, x_fmtS, x_divW, x_truK, x_truS, x_raiseT, x_asg, x_name, x_set0, x_setS, x_drop, x_cb, x_cons, x_nil, x_int1, x_abs1, x_max2, x_gcd, x_gsub, x_sl, x_part, x_nopart, x_int, x_call, x_lst, x_tup, x_not, x_and, x_or, x_andV, x_orV, x_notV, x_ifE, x_eqI, x_neI, x_eqB, x_neB, x_tbm, x_never, x_make, x_meth, x_isII, x_isIC, x_bool1, decide_eq_true_eq, Bool.false_eq_true, if_false, if_true, List.append_nil, List.nil_append, List.cons_append]) (fun i σ H' => H' = H3 ∧ ∃ w, σ = [some (.ref p), some (.str kd), some (.ref r), some (.ref l), some (.ref D), some (.ref Hd), some (.ref q), w, none]) ⟨rfl, _, rfl⟩ (fun i σ H' _ h => by rw [h.1]; exact hq) ?_ ?_
  · rintro i x σ H' hx ⟨rfl, w, rfl⟩
    obtain ⟨e, he, rfl⟩ := ref_at hx
    have hi := (List.getElem?_eq_some_iff.mp he).1
    have l3 := rows3.1
    have ht := rows3.2 i e (nss'[i]'(by omega)) he (List.getElem?_eq_getElem (by omega))
    simp only [x_if, x_test, x_B, x_op, x_un, x_varS, x_var0, x_c, x_I0, x_I, x_U, x_bl, x_ret, x_next, x_eqS, x_neS, x_m0, x_m1, x_isStr, x_SM, x_addT, x_slS, x_lenS, x_strI, x_mulS, x_startT, x_findT, x_preT, x_lstT, x_ascT, x_digT, x_jn, x_js0, x_js1, x_isS, x_fmt, x_fmtS, x_divW, x_truK, x_truS, x_raiseT, x_asg, x_name, x_set0, x_setS, x_drop, x_cb, x_cons, x_nil, x_int1, x_abs1, x_max2, x_gcd, x_gsub, x_sl, x_part, x_nopart, x_int, x_call, x_lst, x_tup, x_not, x_and, x_or, x_andV, x_orV, x_notV, x_ifE, x_eqI, x_neI, x_eqB, x_neB, x_tbm, x_never, x_make, x_meth, x_isII, x_isIC, x_bool1, decide_eq_true_eq, Bool.false_eq_true, if_false, if_true, List.append_nil, List.nil_append, List.cons_append, x_isTT ht, Bool.not_true]
    exact ⟨trivial, _, rfl⟩
  · rintro σ H' ⟨rfl, w, rfl⟩
    try dsimp only
    rw [x_seq]
    simp only [x_if, x_test, x_B, x_op, x_un, x_varS, x_var0, x_c, x_I0, x_I, x_U, x_bl, x_ret, x_next, x_eqS, x_neS, x_m0, x_m1, x_isStr, x_SM, x_addT, x_slS, x_lenS, x_strI, x_mulS, x_startT, x_findT, x_preT, x_lstT, x_ascT, x_digT, x_jn, x_js0, x_js1, x_isS, x_fmt, x_fmtS, x_divW, x_truK, x_truS, x_raiseT, x_asg, x_name, x_set0, x_setS, x_drop, x_cb, x_cons, x_nil, x_int1, x_abs1, x_max2, x_gcd, x_gsub, x_sl, x_part, x_nopart, x_int, x_call, x_lst, x_tup, x_not, x_and, x_or, x_andV, x_orV, x_notV, x_ifE, x_eqI, x_neI, x_eqB, x_neB, x_tbm, x_never, x_make, x_meth, x_isII, x_isIC, x_bool1, decide_eq_true_eq, Bool.false_eq_true, if_false, if_true, List.append_nil, List.nil_append, List.cons_append]
    have sH : Same H1 H' := s2.trans s3
    have q1 : H1 q = none := by
      cases e0 : H1 q with
      | none => rfl
      | some o =>
        rw [s2 _ _ e0] at nq
        cases nq
    have nqd : Hd ≠ q := fun e => by
      rw [← e, eHd] at nq
      cases nq
    refine ⟨ty_lst hq, by show 1 ≤ sizeLine; decide, fun p1 hp1 => ?_⟩
    have r1 := Same.new (o := .lst [.int 0]) hp1
    rw [x_lenA (r1 _ _ (s13 _ _ hr)), List.length_map]
    refine rep_tup upd_same (by have := g.hi; omega) fun t1 H4 r2 _ => ?_
    have r12 := r1.trans r2
    rw [x_append (r12 _ _ hq) (by rw [List.length_map]; have := perm3.length_eq; have := rows3.1; exact Nat.lt_of_lt_of_le (show es'.length < 1000 by omega) (by decide))]
    have t5 : Same H1 (upd H4 q (.lst (es'.map V.ref ++ [.ref t1]))) := fun b o e => by
      rw [upd_ne (fun z => by rw [z, q1] at e; cases e)]
      exact r12 _ _ (sH _ _ e)
    have hHd5 : (upd H4 q (.lst (es'.map V.ref ++ [.ref t1]))) Hd = some (.lst (es.map V.ref)) := by
      rw [upd_ne nqd]
      exact r12 _ _ hHd3
    generalize (upd H4 q (.lst (es'.map V.ref ++ [.ref t1]))) = H5 at t5 hHd5 ⊢
    rw [x_seq]
    simp only [x_if, x_test, x_B, x_op, x_un, x_varS, x_var0, x_c, x_I0, x_I, x_U, x_bl, x_ret, x_next, x_eqS, x_neS, x_m0, x_m1, x_isStr, x_SM, x_addT, x_slS, x_lenS, x_strI, x_mulS, x_startT, x_findT, x_preT, x_lstT, x_ascT, x_digT, x_jn, x_js0, x_js1, x_isS, x_fmt, x_fmtS, x_divW, x_truK, x_truS, x_raiseT, x_asg, x_name, x_set0, x_setS, x_drop, x_cb, x_cons, x_nil, x_int1, x_abs1, x_max2, x_gcd, x_gsub, x_sl, x_part, x_nopart, x_int, x_call, x_lst, x_tup, x_not, x_and, x_or, x_andV, x_orV, x_notV, x_ifE, x_eqI, x_neI, x_eqB, x_neB, x_tbm, x_never, x_make, x_meth, x_isII, x_isIC, x_bool1, decide_eq_true_eq, Bool.false_eq_true, if_false, if_true, List.append_nil, List.nil_append, List.cons_append]
    refine ⟨ty_lst hHd5, by show 1 ≤ sizeLine; decide, fun p2 hp2 => ?_⟩
    have r3 := Same.new (o := .lst [.int 9]) hp2
    rw [x_lenA (r3 _ _ (t5 _ _ (s1 _ _ hr))), List.length_map]
    refine rep_tup upd_same (by have := g.hi; omega) fun t2 H6 r4 _ => ?_
    have r34 := r3.trans r4
    rw [x_append (r34 _ _ hHd5) (by rw [List.length_map]; exact Nat.lt_of_lt_of_le (show es.length < 1000 by omega) (by decide))]
    have t7 : Same H1 (upd H6 Hd (.lst (es.map V.ref ++ [.ref t2]))) := fun b o e => by
      rw [upd_ne (fun z => by rw [z, hHd] at e; cases e)]
      exact r34 _ _ (t5 _ _ e)
    generalize (upd H6 Hd (.lst (es.map V.ref ++ [.ref t2]))) = H7 at t7 ⊢
    have u7 := s1.trans t7
    rw [x_seq]
    simp only [x_if, x_test, x_B, x_op, x_un, x_varS, x_var0, x_c, x_I0, x_I, x_U, x_bl, x_ret, x_next, x_eqS, x_neS, x_m0, x_m1, x_isStr, x_SM, x_addT, x_slS, x_lenS, x_strI, x_mulS, x_startT, x_findT, x_preT, x_lstT, x_ascT, x_digT, x_jn, x_js0, x_js1, x_isS, x_fmt, x_fmtS, x_divW, x_truK, x_truS, x_raiseT, x_asg, x_name, x_set0, x_setS, x_drop, x_cb, x_cons, x_nil, x_int1, x_abs1, x_max2, x_gcd, x_gsub, x_sl, x_part, x_nopart, x_int, x_call, x_lst, x_tup, x_not, x_and, x_or, x_andV, x_orV, x_notV, x_ifE, x_eqI, x_neI, x_eqB, x_neB, x_tbm, x_never, x_make, x_meth, x_isII, x_isIC, x_bool1, decide_eq_true_eq, Bool.false_eq_true, if_false, if_true, List.append_nil, List.nil_append, List.cons_append]
    obtain ⟨dx7, o7, hp7, _⟩ := id (ho.same u7)
    refine ⟨p, dx7, _, rfl, hp7, lk_arr, l, es.map V.ref, rfl, .inl ⟨u7 _ _ hl, fun tp htp => ?_⟩⟩
    have u8 := Same.new' (o := .tup (es.map V.ref)) u7 htp
    refine ⟨p, tp, kd, rk, es, nss, rfl, ho.same u8, g, .inr upd_same, hrow.same u8, by omega, fun ⟨ns, hn, hb⟩ => absurd (hlen ns hn) hb, fun _ q9 H9 _ s9 hq9 => ?_⟩
    have u9 := u8.trans s9
    obtain ⟨es9, nss9, e9, rows9, perm9, asc9⟩ := sort_rows (kd := kd) (rk := rk) (hrow.same u9)
    rw [e9] at hq9
    have en9 : nss9 = nss' := asc_unique g (fun x hx => hlen x (perm9.mem_iff.mp hx)) (perm9.trans perm1.symm) asc9 asc1
    subst en9
    have v9 : Same H1 H9 := fun b o e => s9 _ _ (Same.new htp _ _ (t7 _ _ e))
    simp only [x_isLL hq9]
    refine ⟨true, rfl, ?_⟩
    rw [if_pos rfl]
    refine eq_rows hq9 rows9 (v9 _ _ hD) (rows1.same v9) ⟨true, rfl, ?_⟩
    rw [if_pos rfl]
    obtain ⟨dx9, o9, hp9, _⟩ := id (ho.same u9)
    refine ⟨p, dx9, _, rfl, hp9, lk_arr, by decide, fun em hem => ?_⟩
    have u10 := Same.new' (o := .lst []) u9 hem
    refine ⟨p, em, kd, rk, [], [], rfl, ho.same u10, g, .inl upd_same, ⟨rfl, fun i q ns h => by simp at h⟩, by decide, fun ⟨ns, hn, _⟩ => by simp at hn, fun _ q11 H11 _ s11 hq11 => ?_⟩
    have e0 : sortBy (([] : List Addr).map V.ref) (([] : List (List Int)).map (okey kd rk)) = ([] : List Addr).map V.ref := by simp [sortBy]
    rw [e0] at hq11
    refine ⟨by decide, fun em2 hem2 => ?_⟩
    have hq12 := Same.new hem2 (o := .lst []) _ _ hq11
    refine eq_rows (es := []) (nss := []) hq12 ⟨rfl, fun i q ns h => by simp at h⟩ (es' := []) upd_same ⟨rfl, fun i q ns h => by simp at h⟩ (k _ (Same.new' (u10.trans s11) hem2))
end
end SpX

set_option Elab.async false
set_option linter.all false
set_option maxRecDepth 100000
set_option maxHeartbeats 4000000
/-! Law k26: the law's own text, its last part. -/
namespace SpX
open PySem PySem.Spec L2 StX RZ
theorem x_lcR {te tb : TE} {g : TG} {tt : TT} {vs : List Nat} {σ : L2.St} {H : Hp} {Q : VK} : tLc (iRng1 (tCons te tNil)) g tt tb vs σ H Q = te σ H (fun v H1 => tLc (iRng1 (tCons (tC v) tNil)) g tt tb vs σ H1 Q) := rfl
theorem x_forR {te : TE} {g : TG} {tb : TS} {D : Ends} {σ : L2.St} {H : Hp} : tFor (iRng1 (tCons te tNil)) g tb D σ H = te σ H (fun v H1 => tFor (iRng1 (tCons (tC v) tNil)) g tb D σ H1) := rfl
/-- a list of ints, drawn one by one -/
theorem lc_draws {te : TE} {σ : L2.St} {H : Hp} {Q : VK} {P : Addr} {i : Nat} {n : Int} (h0 : 0 ≤ n) (h1 : n < 10) (hp : PoolB NoB H P)
    (he : ∀ (j : Nat) (H' : Hp) (B : Addr → Prop) (QQ : VK), PoolB B H' P → There B H' → (∀ (y : Int) (H2 : Hp), PoolB B H2 P → Keep P H' H2 → QQ (.int y) H2) → te ((wipe σ [i]).set i (some (.int (j : Int)))) H' QQ)
    (k : ∀ (D : Addr) (H' : Hp) (ys : List Int), D ≠ P → ys.length ≤ 10 → H' D = some (.lst (ys.map V.int)) → PoolB NoB H' P → Keep P H H' → Q (.ref D) H') : tLc (iRng1 (tCons (tC (.int n)) tNil)) (gName i) tYes te [i] σ H Q := by
  refine ⟨n, rfl, by omega, by omega, fun D hD => ?_⟩
  have nD := lst_ne hp hD
  refine lc_range (lo := 0) (fun j H' => ∃ ys : List Int, ys.length = j ∧ H' D = some (.lst (ys.map V.int)) ∧ PoolB (fun b => NoB b ∨ b = D) H' P ∧ Keep P H H')
    ⟨[], rfl, upd_same, hp.more hD, Keep.of (Same.new hD)⟩ (fun j H' hj hh => ?_) fun H' hh => ?_
  · obtain ⟨ys, l, e, hb, kp⟩ := hh
    refine ⟨wipe1, ?_⟩
    unfold tYes
    dsimp only
    rw [if_pos rfl, Int.zero_add]
    refine he j H' (fun b => NoB b ∨ b = D) _ hb (fun b hb => ?_) fun y H2 hb2 k2 => ?_
    · rcases hb with z | z
      · exact z.elim
      · exact ⟨_, by rw [z]; exact e⟩
    · have e2 := k2 _ _ nD e
      refine ⟨ys.map V.int, e2, ?_, ys ++ [y], by rw [List.length_append, l]; rfl, by rw [upd_same, List.map_append]; rfl, hb2.put (.inr rfl) nD, fun b o hb' eb => ?_⟩
      · rw [List.length_map, l]
        exact Nat.lt_of_lt_of_le (show j < 1000 by omega) (by decide)
      · rw [upd_ne (ne_of_none eb hD)]
        exact (kp.trans k2) b o hb' eb
  · obtain ⟨ys, l, e, hb, kp⟩ := hh
    exact k D H' ys nD (by omega) e (hb.less fun b z => z.elim) kp
theorem ord_keep {B : Addr → Prop} {C P p : Addr} {H H' : Hp} {kd : Str} {rk : List Int} (h : OrdAt C H p kd rk) (hp : PoolB B H P) (k : Keep P H H') : OrdAt C H' p kd rk := by
  obtain ⟨dx, o, h1, h2⟩ := h
  refine ⟨dx, o, k _ _ (fun z => ?_) h1, exp_keep h2 hp k⟩
  obtain ⟨xs, hx⟩ := hp.there
  rw [z, hx] at h1
  cases h1
def t_olaw_22 (K : PySem.W.Frag) (C Z BO f_oplace : Addr) (E : XK) : TS :=
    (tSeq (tAsg (tLc (iRng1 (tCons (tCall spTakeB [] E0 (tCons (tVar 1) (tCons (tC (.int 5)) tNil))) tNil)) (gName 16) tYes (tOp (rI0 fun i j => .int (i - j)) (tCall spTakeB [] E0 (tCons (tVar 1) (tCons (tC (.int 5)) tNil))) (tC (.int 1))) [16]) (gName 17))
    (tSeq (tIfS (tOr (tNot (tB (tCall (spOMade C) [] E0 (tCons (tCall spOWord [] E0 (tCons (tVar 1) tNil)) (tCons (tVar 17) tNil))))) (tNot (tB (tCall (spOMade C) [] E0 (tCons (tVar 3) (tCons (tVar 17) tNil)))))) (tRet (tC (.bl false))) tNext)
    (tSeq (tAsg (tCall spTakeB [] E0 (tCons (tVar 1) (tCons (tOp (rI0 fun i j => .int (i + j)) (tCB rLenA (tCons (tVar 14) tNil)) (tC (.int 1))) tNil))) (gName 18))
    (tSeq (tAsg (tOp (rCatT K) (tVar 9) (tTup (tCons (tC (.int 0)) tNil))) (gName 19))
    (tSeq (tIfS (tAnd (tTest (tOp (rI0 fun i j => .bl (decide (j < i))) (tVar 2) (tC (.int 1)))) (tTest (tOp rEq (tCall spTakeB [] E0 (tCons (tVar 1) (tCons (tC (.int 2)) tNil))) (tC (.int 0))))) (tAsg (tSl (rSlT K) (tVar 9) (tPart (tC (.int 1))) tNoPart) (gName 19)) tNext)
    (tSeq (tIfS (tOr (tNot (tB (tCall (spNPrec C) [] E0 (tCons (tVar 6) (tCons (tVar 19) (tCons (tVar 8) tNil)))))) (tNot (tB (tCall (spNPrec C) [] E0 (tCons (tVar 6) (tCons (tVar 8) (tCons (tVar 19) tNil))))))) (tRet (tC (.bl false))) tNext)
    (tRet (tCall (spNArr C) [] E0 (tCons (tVar 6) (tCons (tOp rCat (tOp rCat (tSl rSlA (tVar 14) tNoPart (tPart (tVar 18))) (tLst (tCons (tVar 19) tNil))) (tSl rSlA (tVar 14) (tPart (tVar 18)) tNoPart)) tNil))))))))))
section
variable {K : PySem.W.Frag} {C Z BO f_oplace : Addr}
theorem olaw_22 {H : Hp} {Q : VK} {E : XK} {P R O one two L : Addr} {kd : Str} {rk n1 n2 : List Int} {es : List Addr} {nss : List (List Int)} {s0 s5 s7 s10 s11 s12 s13 s15 s16 s20 : Option V} (hp : PoolB NoB H P) (nR : R ≠ P) (nL : L ≠ P) (ho : OrdAt C H O kd rk) (g : GoodO kd rk) (hR : H R = some (.lst (rk.map V.int)))
    (h1 : ExpAt H one n1) (h2 : ExpAt H two n2) (l1 : n1.length = rk.length) (l2 : n2.length = rk.length) (hL : H L = some (.lst (es.map V.ref))) (rows : RowsAt H es nss) (hz : es.length ≤ 50) (k : ∀ H', Q (.bl true) H') :
    t_olaw_22 K C Z BO f_oplace E { nx := fun _ H' => Q .non H', rt := Q } [s0, some (.ref P), some (.int rk.length), some (.str kd), some (.ref R), s5, some (.ref O), s7, some (.ref one), some (.ref two), s10, s11, s12, s13, some (.ref L), s15, s16, none, none, none, s20] H := by
  have glo := g.lo
  have ghi := g.hi
  unfold t_olaw_22
  rw [x_seq, x_asg, x_lcR]
  simp only [x_if, x_test, x_B, x_op, x_un, x_varS, x_var0, x_c, x_I0, x_I, x_U, x_bl, x_ret, x_next, x_eqS, x_neS, x_m0, x_m1, x_isStr, x_SM, x_addT, x_slS, x_lenS, x_strI, x_mulS, x_startT, x_findT, x_preT, x_lstT, x_ascT, x_digT, x_jn, x_js0, x_js1, x_isS, x_fmt, x_fmtS, x_divW, x_truK, x_truS, x_raiseT, x_asg, x_name, x_set0, x_setS, x_drop, x_cb, x_cons, x_nil, x_int1, x_abs1, x_max2, x_gcd, x_gsub, x_sl, x_part, x_nopart, x_int, x_call, x_lst, x_tup, x_not, x_and, x_or, x_andV, x_orV, x_notV, x_ifE, x_eqI, x_neI, x_eqB, x_neB, x_tbm, x_never, x_make, x_meth, x_isII, x_isIC, x_bool1, decide_eq_true_eq, Bool.false_eq_true, if_false, if_true, List.append_nil, List.nil_append, List.cons_append]
  refine take_to hp noB (by decide) (by decide) fun n H1 hp1 k1 r0 r1 => ?_
  have r1 := r1 (by decide)
  refine lc_draws r0 (by omega) hp1 (fun j H' B QQ hb hB kk => ?_) fun D H2 ys nDP ly hD hp2 k2 => ?_
  · show tOp _ (tCall spTakeB [] E0 (tCons (tVar 1) (tCons (tC (.int 5)) tNil))) (tC (.int 1)) [s0, some (.ref P), some (.int rk.length), some (.str kd), some (.ref R), s5, some (.ref O), s7, some (.ref one), some (.ref two), s10, s11, s12, s13, some (.ref L), s15, some (.int (j : Int)), none, none, none, s20] H' QQ
    simp only [x_if, x_test, x_B, x_op, x_un, x_varS, x_var0, x_c, x_I0, x_I, x_U, x_bl, x_ret, x_next, x_eqS, x_neS, x_m0, x_m1, x_isStr, x_SM, x_addT, x_slS, x_lenS, x_strI, x_mulS, x_startT, x_findT, x_preT, x_lstT, x_ascT, x_digT, x_jn, x_js0, x_js1, x_isS, x_fmt, x_fmtS, x_divW, x_truK, x_truS, x_raiseT, x_asg, x_name, x_set0, x_setS, x_drop, x_cb, x_cons, x_nil, x_int1, x_abs1, x_max2, x_gcd, x_gsub, x_sl, x_part, x_nopart, x_int, x_call, x_lst, x_tup, x_not, x_and, x_or, x_andV, x_orV, x_notV, x_ifE, x_eqI, x_neI, x_eqB, x_neB, x_tbm, x_never, x_make, x_meth, x_isII, x_isIC, x_bool1, decide_eq_true_eq, Bool.false_eq_true, if_false, if_true, List.append_nil, List.nil_append, List.cons_append]
    refine take_to hb hB (by decide) (by decide) fun r H3 hp3 k3 _ _ => ?_
    simp only [x_if, x_test, x_B, x_op, x_un, x_varS, x_var0, x_c, x_I0, x_I, x_U, x_bl, x_ret, x_next, x_eqS, x_neS, x_m0, x_m1, x_isStr, x_SM, x_addT, x_slS, x_lenS, x_strI, x_mulS, x_startT, x_findT, x_preT, x_lstT, x_ascT, x_digT, x_jn, x_js0, x_js1, x_isS, x_fmt, x_fmtS, x_divW, x_truK, x_truS, x_raiseT, x_asg, x_name, x_set0, x_setS, x_drop, x_cb, x_cons, x_nil, x_int1, x_abs1, x_max2, x_gcd, x_gsub, x_sl, x_part, x_nopart, x_int, x_call, x_lst, x_tup, x_not, x_and, x_or, x_andV, x_orV, x_notV, x_ifE, x_eqI, x_neI, x_eqB, x_neB, x_tbm, x_never, x_make, x_meth, x_isII, x_isIC, x_bool1, decide_eq_true_eq, Bool.false_eq_true, if_false, if_true, List.append_nil, List.nil_append, List.cons_append]
    exact kk _ H3 hp3 k3
  have k02 := k1.trans k2
  try dsimp only
  try simp only [x_name, x_setS, x_set0]
  rw [x_seq]
  simp only [x_if, x_test, x_B, x_op, x_un, x_varS, x_var0, x_c, x_I0, x_I, x_U, x_bl, x_ret, x_next, x_eqS, x_neS, x_m0, x_m1, x_isStr, x_SM, x_addT, x_slS, x_lenS, x_strI, x_mulS, x_startT, x_findT, x_preT, x_lstT, x_ascT, x_digT, x_jn, x_js0, x_js1, x_isS, x_fmt, x_fmtS, x_divW, x_truK, x_truS, x_raiseT, x_asg, x_name, x_set0, x_setS, x_drop, x_cb, x_cons, x_nil, x_int1, x_abs1, x_max2, x_gcd, x_gsub, x_sl, x_part, x_nopart, x_int, x_call, x_lst, x_tup, x_not, x_and, x_or, x_andV, x_orV, x_notV, x_ifE, x_eqI, x_neI, x_eqB, x_neB, x_tbm, x_never, x_make, x_meth, x_isII, x_isIC, x_bool1, decide_eq_true_eq, Bool.false_eq_true, if_false, if_true, List.append_nil, List.nil_append, List.cons_append]
  refine ⟨P, rfl, hp2, fun y H3 _ hp3 k3 => ?_⟩
  have hD3 := k3 _ _ nDP hD
  refine ⟨D, y, ys, rfl, hD3, ly, fun H4 s4 => ?_⟩
  simp only [x_if, x_test, x_B, x_op, x_un, x_varS, x_var0, x_c, x_I0, x_I, x_U, x_bl, x_ret, x_next, x_eqS, x_neS, x_m0, x_m1, x_isStr, x_SM, x_addT, x_slS, x_lenS, x_strI, x_mulS, x_startT, x_findT, x_preT, x_lstT, x_ascT, x_digT, x_jn, x_js0, x_js1, x_isS, x_fmt, x_fmtS, x_divW, x_truK, x_truS, x_raiseT, x_asg, x_name, x_set0, x_setS, x_drop, x_cb, x_cons, x_nil, x_int1, x_abs1, x_max2, x_gcd, x_gsub, x_sl, x_part, x_nopart, x_int, x_call, x_lst, x_tup, x_not, x_and, x_or, x_andV, x_orV, x_notV, x_ifE, x_eqI, x_neI, x_eqB, x_neB, x_tbm, x_never, x_make, x_meth, x_isII, x_isIC, x_bool1, decide_eq_true_eq, Bool.false_eq_true, if_false, if_true, List.append_nil, List.nil_append, List.cons_append, Bool.not_true]
  refine ⟨D, kd, ys, rfl, s4 _ _ hD3, ly, fun H5 s5' => ?_⟩
  simp only [x_if, x_test, x_B, x_op, x_un, x_varS, x_var0, x_c, x_I0, x_I, x_U, x_bl, x_ret, x_next, x_eqS, x_neS, x_m0, x_m1, x_isStr, x_SM, x_addT, x_slS, x_lenS, x_strI, x_mulS, x_startT, x_findT, x_preT, x_lstT, x_ascT, x_digT, x_jn, x_js0, x_js1, x_isS, x_fmt, x_fmtS, x_divW, x_truK, x_truS, x_raiseT, x_asg, x_name, x_set0, x_setS, x_drop, x_cb, x_cons, x_nil, x_int1, x_abs1, x_max2, x_gcd, x_gsub, x_sl, x_part, x_nopart, x_int, x_call, x_lst, x_tup, x_not, x_and, x_or, x_andV, x_orV, x_notV, x_ifE, x_eqI, x_neI, x_eqB, x_neB, x_tbm, x_never, x_make, x_meth, x_isII, x_isIC, x_bool1, decide_eq_true_eq, Bool.false_eq_true, if_false, if_true, List.append_nil, List.nil_append, List.cons_append, Bool.not_true]
  have hp5 := (hp3.same s4).same s5'
  have k05 : Keep P H H5 := fun b o hb e => s5' _ _ (s4 _ _ (k3 _ _ hb (k02 _ _ hb e)))
  have hL5 := k05 _ _ nL hL
  try rw [x_seq]
  simp only [x_if, x_test, x_B, x_op, x_un, x_varS, x_var0, x_c, x_I0, x_I, x_U, x_bl, x_ret, x_next, x_eqS, x_neS, x_m0, x_m1, x_isStr, x_SM, x_addT, x_slS, x_lenS, x_strI, x_mulS, x_startT, x_findT, x_preT, x_lstT, x_ascT, x_digT, x_jn, x_js0, x_js1, x_isS, x_fmt, x_fmtS, x_divW, x_truK, x_truS, x_raiseT, x_asg, x_name, x_set0, x_setS, x_drop, x_cb, x_cons, x_nil, x_int1, x_abs1, x_max2, x_gcd, x_gsub, x_sl, x_part, x_nopart, x_int, x_call, x_lst, x_tup, x_not, x_and, x_or, x_andV, x_orV, x_notV, x_ifE, x_eqI, x_neI, x_eqB, x_neB, x_tbm, x_never, x_make, x_meth, x_isII, x_isIC, x_bool1, decide_eq_true_eq, Bool.false_eq_true, if_false, if_true, List.append_nil, List.nil_append, List.cons_append, x_lenA hL5, List.length_map]
  refine take_to hp5 noB (by omega) (by omega) fun at0' H6 hp6 k6 a0 a1 => ?_
  have a1 := a1 (by omega)
  obtain ⟨c, rfl⟩ := Int.eq_ofNat_of_zero_le a0
  have hc : c ≤ es.length := by omega
  have k06 := k05.trans k6
  have h26 := exp_keep h2 hp k06
  try dsimp only
  try rw [x_seq]
  simp only [x_if, x_test, x_B, x_op, x_un, x_varS, x_var0, x_c, x_I0, x_I, x_U, x_bl, x_ret, x_next, x_eqS, x_neS, x_m0, x_m1, x_isStr, x_SM, x_addT, x_slS, x_lenS, x_strI, x_mulS, x_startT, x_findT, x_preT, x_lstT, x_ascT, x_digT, x_jn, x_js0, x_js1, x_isS, x_fmt, x_fmtS, x_divW, x_truK, x_truS, x_raiseT, x_asg, x_name, x_set0, x_setS, x_drop, x_cb, x_cons, x_nil, x_int1, x_abs1, x_max2, x_gcd, x_gsub, x_sl, x_part, x_nopart, x_int, x_call, x_lst, x_tup, x_not, x_and, x_or, x_andV, x_orV, x_notV, x_ifE, x_eqI, x_neI, x_eqB, x_neB, x_tbm, x_never, x_make, x_meth, x_isII, x_isIC, x_bool1, decide_eq_true_eq, Bool.false_eq_true, if_false, if_true, List.append_nil, List.nil_append, List.cons_append]
  refine ⟨by show 1 ≤ sizeLine; decide, fun z hz' => ⟨two, z, n2.map V.int, [.int 0], rfl, rfl, SqT.at (Same.new hz' _ _ h26), SqT.at upd_same, fun e => ?_, ?_, fun e => (by cases e), fun _ w hw => ?_⟩⟩
  · have := congrArg List.length e
    rw [List.length_map] at this
    simp at this
    rw [this] at l2
    simp at l2
    omega
  · rw [List.length_map]
    exact Nat.le_trans (show n2.length + 1 ≤ 10 by omega) (by decide)
  have sW : Same H6 (upd (upd H6 z (.tup [.int 0])) w (.tup (n2.map V.int ++ [.int 0]))) := Same.new' (Same.new hz') hw
  have hW : ExpAt (upd (upd H6 z (.tup [.int 0])) w (.tup (n2.map V.int ++ [.int 0]))) w (n2 ++ [0]) := by
    rw [ExpAt, upd_same, List.map_append]
    rfl
  generalize (upd (upd H6 z (.tup [.int 0])) w (.tup (n2.map V.int ++ [.int 0]))) = H7 at sW hW ⊢
  have hp7 := hp6.same sW
  have k07 : Keep P H H7 := fun b o hb e => sW _ _ (k06 _ _ hb e)
  have fin : ∀ (wr : Addr) (nw : List Int) (H' : Hp), ExpAt H' wr nw → nw.length ≠ rk.length → Keep P H H' →
      tSeq (tIfS (tOr (tNot (tB (tCall (spNPrec C) [] E0 (tCons (tVar 6) (tCons (tVar 19) (tCons (tVar 8) tNil)))))) (tNot (tB (tCall (spNPrec C) [] E0 (tCons (tVar 6) (tCons (tVar 8) (tCons (tVar 19) tNil))))))) (tRet (tC (.bl false))) tNext)
      (tRet (tCall (spNArr C) [] E0 (tCons (tVar 6) (tCons (tOp rCat (tOp rCat (tSl rSlA (tVar 14) tNoPart (tPart (tVar 18))) (tLst (tCons (tVar 19) tNil))) (tSl rSlA (tVar 14) (tPart (tVar 18)) tNoPart)) tNil))))
      { nx := fun _ H' => Q .non H', rt := Q } [s0, some (.ref P), some (.int rk.length), some (.str kd), some (.ref R), s5, some (.ref O), s7, some (.ref one), some (.ref two), s10, s11, s12, s13, some (.ref L), s15, s16, some (.ref D), some (.int c), some (.ref wr), s20] H' := by
    intro wr nw H' hwr hne k'
    rw [x_seq]
    simp only [x_if, x_test, x_B, x_op, x_un, x_varS, x_var0, x_c, x_I0, x_I, x_U, x_bl, x_ret, x_next, x_eqS, x_neS, x_m0, x_m1, x_isStr, x_SM, x_addT, x_slS, x_lenS, x_strI, x_mulS, x_startT, x_findT, x_preT, x_lstT, x_ascT, x_digT, x_jn, x_js0, x_js1, x_isS, x_fmt, x_fmtS, x_divW, x_truK, x_truS, x_raiseT, x_asg, x_name, x_set0, x_setS, x_drop, x_cb, x_cons, x_nil, x_int1, x_abs1, x_max2, x_gcd, x_gsub, x_sl, x_part, x_nopart, x_int, x_call, x_lst, x_tup, x_not, x_and, x_or, x_andV, x_orV, x_notV, x_ifE, x_eqI, x_neI, x_eqB, x_neB, x_tbm, x_never, x_make, x_meth, x_isII, x_isIC, x_bool1, decide_eq_true_eq, Bool.false_eq_true, if_false, if_true, List.append_nil, List.nil_append, List.cons_append]
    have ho' := ord_keep ho hp k'
    have h1' := exp_keep h1 hp k'
    refine ⟨O, wr, one, kd, rk, nw, n1, rfl, ho', g, hwr, h1', fun q => hne q.1, fun H8 s8 => ?_⟩
    simp only [x_if, x_test, x_B, x_op, x_un, x_varS, x_var0, x_c, x_I0, x_I, x_U, x_bl, x_ret, x_next, x_eqS, x_neS, x_m0, x_m1, x_isStr, x_SM, x_addT, x_slS, x_lenS, x_strI, x_mulS, x_startT, x_findT, x_preT, x_lstT, x_ascT, x_digT, x_jn, x_js0, x_js1, x_isS, x_fmt, x_fmtS, x_divW, x_truK, x_truS, x_raiseT, x_asg, x_name, x_set0, x_setS, x_drop, x_cb, x_cons, x_nil, x_int1, x_abs1, x_max2, x_gcd, x_gsub, x_sl, x_part, x_nopart, x_int, x_call, x_lst, x_tup, x_not, x_and, x_or, x_andV, x_orV, x_notV, x_ifE, x_eqI, x_neI, x_eqB, x_neB, x_tbm, x_never, x_make, x_meth, x_isII, x_isIC, x_bool1, decide_eq_true_eq, Bool.false_eq_true, if_false, if_true, List.append_nil, List.nil_append, List.cons_append, Bool.not_true]
    refine ⟨O, one, wr, kd, rk, n1, nw, rfl, ho'.same s8, g, s8 _ _ h1', s8 _ _ hwr, fun q => hne q.2, fun H9 s9 => ?_⟩
    have s89 := s8.trans s9
    have hL9 := s89 _ _ (k' _ _ nL hL)
    have hwr9 := s89 _ _ hwr
    have rows9 := (rows_keep rows hp k').same s89
    have ho9 := ho'.same s89
    simp only [x_if, x_test, x_B, x_op, x_un, x_varS, x_var0, x_c, x_I0, x_I, x_U, x_bl, x_ret, x_next, x_eqS, x_neS, x_m0, x_m1, x_isStr, x_SM, x_addT, x_slS, x_lenS, x_strI, x_mulS, x_startT, x_findT, x_preT, x_lstT, x_ascT, x_digT, x_jn, x_js0, x_js1, x_isS, x_fmt, x_fmtS, x_divW, x_truK, x_truS, x_raiseT, x_asg, x_name, x_set0, x_setS, x_drop, x_cb, x_cons, x_nil, x_int1, x_abs1, x_max2, x_gcd, x_gsub, x_sl, x_part, x_nopart, x_int, x_call, x_lst, x_tup, x_not, x_and, x_or, x_andV, x_orV, x_notV, x_ifE, x_eqI, x_neI, x_eqB, x_neB, x_tbm, x_never, x_make, x_meth, x_isII, x_isIC, x_bool1, decide_eq_true_eq, Bool.false_eq_true, if_false, if_true, List.append_nil, List.nil_append, List.cons_append, Bool.not_true]
    have ll := rows.1
    refine ⟨L, es.map V.ref, rfl, hL9, fun q1 hq1 => ?_⟩
    rw [cutV_to _ (by rw [List.length_map]; omega)]
    refine ⟨by show 1 ≤ sizeLine; decide, fun q2 hq2 => ?_⟩
    have t1 : Same H9 (upd (upd H9 q1 (.lst ((es.map V.ref).take c))) q2 (.lst [.ref wr])) := Same.new' (Same.new hq1) hq2
    have u1 : (upd (upd H9 q1 (.lst ((es.map V.ref).take c))) q2 (.lst [.ref wr])) q1 = some (.lst ((es.map V.ref).take c)) := Same.new hq2 _ _ upd_same
    have u2 : (upd (upd H9 q1 (.lst ((es.map V.ref).take c))) q2 (.lst [.ref wr])) q2 = some (.lst [.ref wr]) := upd_same
    generalize (upd (upd H9 q1 (.lst ((es.map V.ref).take c))) q2 (.lst [.ref wr])) = H10 at t1 u1 u2 ⊢
    have big : ∀ n : Nat, n ≤ 1000 → n ≤ sizeLine := fun n hn => Nat.le_trans hn (by decide)
    try dsimp only
    rw [x_cat u1 u2 (by rw [List.length_take, List.length_map]; exact big _ (by show min c es.length + 1 ≤ 1000; omega))]
    intro q3 hq3
    refine ⟨L, es.map V.ref, rfl, Same.new hq3 _ _ (t1 _ _ hL9), fun q4 hq4 => ?_⟩
    rw [cutV_from _ (by rw [List.length_map]; omega)]
    have t2 : Same H10 (upd (upd H10 q3 (.lst ((es.map V.ref).take c ++ [.ref wr]))) q4 (.lst ((es.map V.ref).drop c))) := Same.new' (Same.new hq3) hq4
    have u3 : (upd (upd H10 q3 (.lst ((es.map V.ref).take c ++ [.ref wr]))) q4 (.lst ((es.map V.ref).drop c))) q3 = some (.lst ((es.map V.ref).take c ++ [.ref wr])) := Same.new hq4 _ _ upd_same
    have u4 : (upd (upd H10 q3 (.lst ((es.map V.ref).take c ++ [.ref wr]))) q4 (.lst ((es.map V.ref).drop c))) q4 = some (.lst ((es.map V.ref).drop c)) := upd_same
    generalize (upd (upd H10 q3 (.lst ((es.map V.ref).take c ++ [.ref wr]))) q4 (.lst ((es.map V.ref).drop c))) = H11 at t2 u3 u4 ⊢
    try dsimp only
    rw [x_cat u3 u4 (by rw [List.length_append, List.length_take, List.length_drop, List.length_map]; exact big _ (by show min c es.length + 1 + (es.length - c) ≤ 1000; omega))]
    intro q5 hq5
    have sB : Same H9 (upd H11 q5 (.lst ((es.map V.ref).take c ++ [.ref wr] ++ (es.map V.ref).drop c))) := Same.new' (t1.trans t2) hq5
    have em : (es.map V.ref).take c ++ [V.ref wr] ++ (es.map V.ref).drop c = (es.take c ++ wr :: es.drop c).map V.ref := by
      rw [List.map_append, List.map_cons, List.map_take, List.map_drop, List.append_assoc]
      rfl
    refine ⟨O, q5, kd, rk, es.take c ++ wr :: es.drop c, nss.take c ++ nw :: nss.drop c, rfl, ho9.same sB, g, .inl (by rw [upd_same, em]), rows_ins (rows9.same sB) (sB _ _ hwr9) (by omega), ?_, ⟨nw, by simp, hne⟩, fun H12 _ => k H12⟩
    rw [List.length_append, List.length_cons, List.length_take, List.length_drop]
    omega
  try dsimp only
  try rw [x_seq]
  simp only [x_if, x_test, x_B, x_op, x_un, x_varS, x_var0, x_c, x_I0, x_I, x_U, x_bl, x_ret, x_next, x_eqS, x_neS, x_m0, x_m1, x_isStr, x_SM, x_addT, x_slS, x_lenS, x_strI, x_mulS, x_startT, x_findT, x_preT, x_lstT, x_ascT, x_digT, x_jn, x_js0, x_js1, x_isS, x_fmt, x_fmtS, x_divW, x_truK, x_truS, x_raiseT, x_asg, x_name, x_set0, x_setS, x_drop, x_cb, x_cons, x_nil, x_int1, x_abs1, x_max2, x_gcd, x_gsub, x_sl, x_part, x_nopart, x_int, x_call, x_lst, x_tup, x_not, x_and, x_or, x_andV, x_orV, x_notV, x_ifE, x_eqI, x_neI, x_eqB, x_neB, x_tbm, x_never, x_make, x_meth, x_isII, x_isIC, x_bool1, decide_eq_true_eq, Bool.false_eq_true, if_false, if_true, List.append_nil, List.nil_append, List.cons_append]
  have lw : (n2 ++ [(0 : Int)]).length ≠ rk.length := by rw [List.length_append, l2]; simp
  refine ite2 (fun hd => ?_) fun _ => fin w _ H7 hW lw k07
  refine take_to hp7 noB (by decide) (by decide) fun r H8 hp8 k8 _ _ => ?_
  have k08 := k07.trans k8
  try simp only [x_if, x_test, x_B, x_op, x_un, x_varS, x_var0, x_c, x_I0, x_I, x_U, x_bl, x_ret, x_next, x_eqS, x_neS, x_m0, x_m1, x_isStr, x_SM, x_addT, x_slS, x_lenS, x_strI, x_mulS, x_startT, x_findT, x_preT, x_lstT, x_ascT, x_digT, x_jn, x_js0, x_js1, x_isS, x_fmt, x_fmtS, x_divW, x_truK, x_truS, x_raiseT, x_asg, x_name, x_set0, x_setS, x_drop, x_cb, x_cons, x_nil, x_int1, x_abs1, x_max2, x_gcd, x_gsub, x_sl, x_part, x_nopart, x_int, x_call, x_lst, x_tup, x_not, x_and, x_or, x_andV, x_orV, x_notV, x_ifE, x_eqI, x_neI, x_eqB, x_neB, x_tbm, x_never, x_make, x_meth, x_isII, x_isIC, x_bool1, decide_eq_true_eq, Bool.false_eq_true, if_false, if_true, List.append_nil, List.nil_append, List.cons_append]
  refine ite2 (fun _ => ?_) fun _ => fin w _ H8 (exp_keep hW hp7 k8) lw k08
  refine ⟨two, n2.map V.int, rfl, SqT.at (exp_keep h2 hp k08), fun e => ?_, fun w2 hw2 => ?_⟩
  · have := e.1
    rw [show ((1 : Int)) = ((1 : Nat) : Int) from rfl, HT.sIx_nat, List.length_map] at this
    omega
  · have c1 := cutV_from (n2.map V.int) (c := 1) (by rw [List.length_map]; omega)
    rw [show (((1 : Nat) : Int)) = 1 from rfl] at c1
    rw [c1, ← List.map_drop]
    refine fin w2 (n2.drop 1) _ upd_same (by rw [List.length_drop]; omega) fun b o hb e => Same.new hw2 _ _ (k08 b o hb e)
end
end SpX

set_option Elab.async false
set_option linter.all false
set_option maxRecDepth 100000
set_option maxHeartbeats 4000000
/-! Law k26: places drawn; what the order keeps. -/
namespace SpX
open PySem PySem.Spec L2 StX RZ
def klt (kd : Str) (rk ns ms : List Int) : Bool := HT.lexLt (okey kd rk ns) (okey kd rk ms)
theorem klt_eq {kd : Str} {rk ns ms : List Int} (g : GoodO kd rk) (hn : ns.length = rk.length) (hm : ms.length = rk.length) : klt kd rk ns ms = if kd = ("degree" : Str) ∧ ns.sum ≠ ms.sum then decide (ns.sum < ms.sum) else cmpR (decide (kd = ("degree" : Str))) ns ms rk := by
  have sn := sum_byRank g hn
  have sm := sum_byRank g hm
  unfold klt okey
  by_cases hk : kd = ("degree" : Str)
  · rw [if_pos hk, if_pos hk, decide_eq_true hk]
    unfold plc
    rw [HT.lexLt_cons, sn, sm, cmpR_deg]
    by_cases hs : ns.sum = ms.sum
    · rw [if_pos hs, if_neg (by simp [hs])]
    · rw [if_neg hs, if_pos ⟨hk, hs⟩]
  · rw [if_neg hk, if_neg hk, if_neg (by simp [hk]), decide_eq_false hk, cmpR_var]
def addv (a b : List Int) : List Int := List.zipWith (· + ·) a b
theorem addv_len {a b : List Int} (h : b.length = a.length) : (addv a b).length = a.length := by
  unfold addv
  rw [List.length_zipWith]
  omega
theorem addv_sum : ∀ {a b : List Int}, b.length = a.length → (addv a b).sum = a.sum + b.sum
  | [], [], _ => rfl
  | [], _ :: _, h => by simp at h
  | _ :: _, [], h => by simp at h
  | x :: a, y :: b, h => by
    show (x + y) + (addv a b).sum = (x + a.sum) + (y + b.sum)
    rw [addv_sum (by simpa using h)]
    omega
theorem addv_get {a b : List Int} (h : b.length = a.length) {i : Nat} (hi : i < a.length) : (addv a b).getD i 0 = a.getD i 0 + b.getD i 0 := by
  have e : (addv a b)[i]? = some (a[i] + b[i]) := by
    unfold addv
    rw [List.getElem?_zipWith, List.getElem?_eq_getElem hi, List.getElem?_eq_getElem (by omega)]
  rw [List.getD_eq_getElem?_getD, List.getD_eq_getElem?_getD, List.getD_eq_getElem?_getD, e, List.getElem?_eq_getElem hi, List.getElem?_eq_getElem (show i < b.length by omega)]
  rfl
theorem addv_range {a b : List Int} (h : b.length = a.length) : (List.range a.length).map (fun j => V.int (a.getD j 0 + b.getD j 0)) = (addv a b).map V.int := by
  have := addv_len h
  rw [← this]
  refine range_map fun j x hx => ?_
  have hj := (List.getElem?_eq_some_iff.mp hx).1
  rw [← addv_get h (by omega), List.getD_eq_getElem?_getD, hx]
  rfl
theorem cmpR_add {dg : Bool} {a b f : List Int} (ha : f.length = a.length) (hb : f.length = b.length) : ∀ {rk : List Int}, (∀ z ∈ rk, 0 ≤ z ∧ z < a.length) → cmpR dg (addv a f) (addv b f) rk = cmpR dg a b rk
  | [], _ => rfl
  | z :: r, h => by
    have hz := h z List.mem_cons_self
    rw [cmpR_cons, cmpR_cons, addv_get ha (by omega), addv_get hb (by omega), cmpR_add ha hb fun y hy => h y (List.mem_cons_of_mem _ hy)]
    generalize a.getD z.toNat 0 = x
    generalize b.getD z.toNat 0 = y
    generalize f.getD z.toNat 0 = w
    by_cases e : x = y
    · rw [if_pos e, if_pos (by omega)]
    · rw [if_neg e, if_neg (by omega)]
      have : (decide (y + w < x + w)) = decide (y < x) := by
        by_cases q : y < x
        · rw [decide_eq_true q, decide_eq_true (by omega)]
        · rw [decide_eq_false q, decide_eq_false (by omega)]
      rw [this]
theorem klt_add {kd : Str} {rk a b f : List Int} (g : GoodO kd rk) (ha : a.length = rk.length) (hb : b.length = rk.length) (hf : f.length = rk.length) : klt kd rk (addv a f) (addv b f) = klt kd rk a b := by
  have la := addv_len (a := a) (b := f) (by omega)
  have lb := addv_len (a := b) (b := f) (by omega)
  rw [klt_eq g (by omega) (by omega), klt_eq g ha hb, addv_sum (by omega), addv_sum (by omega), cmpR_add (by omega) (by omega) fun z hz => by have := g.mem hz; omega]
  by_cases h : kd = ("degree" : Str) ∧ a.sum ≠ b.sum
  · rw [if_pos h, if_pos ⟨h.1, by have := h.2; omega⟩]
    by_cases q : a.sum < b.sum
    · rw [decide_eq_true q, decide_eq_true (by omega)]
    · rw [decide_eq_false q, decide_eq_false (by omega)]
  · rw [if_neg h, if_neg fun z => h ⟨z.1, by have := z.2; omega⟩]
theorem sum_zero : ∀ {l : List Int}, (∀ x ∈ l, 0 ≤ x) → 0 ≤ l.sum ∧ (l.sum = 0 → l = List.replicate l.length 0)
  | [], _ => ⟨Int.le_refl 0, fun _ => rfl⟩
  | x :: r, h => by
    obtain ⟨h1, h2⟩ := sum_zero fun y hy => h y (List.mem_cons_of_mem _ hy)
    have hx := h x List.mem_cons_self
    rw [List.sum_cons]
    refine ⟨by omega, fun e => ?_⟩
    have ex : x = 0 := by omega
    rw [List.length_cons, List.replicate_succ, ex, ← h2 (by omega)]
theorem cmpR_unit {n : Nat} {t : List Int} (h0 : ∀ x ∈ t, 0 ≤ x) : ∀ {rk : List Int}, (∃ z ∈ rk, t.getD z.toNat 0 ≠ 0) → cmpR false (List.replicate n 0) t rk = true
  | [], h => by obtain ⟨z, hz, _⟩ := h; simp at hz
  | z :: r, h => by
    have e0 : (List.replicate n (0 : Int)).getD z.toNat 0 = 0 := by
      rw [List.getD_eq_getElem?_getD, List.getElem?_replicate]
      split <;> rfl
    have tz := get_nn h0 z.toNat
    rw [cmpR_cons, e0]
    by_cases q : t.getD z.toNat 0 = 0
    · rw [if_pos q.symm]
      refine cmpR_unit h0 ?_
      obtain ⟨y, hy, hyn⟩ := h
      rcases List.mem_cons.mp hy with rfl | hy
      · exact absurd q hyn
      · exact ⟨y, hy, hyn⟩
    · have hf : decide (t.getD z.toNat 0 < 0) = false := decide_eq_false (by omega)
      rw [if_neg fun e => q e.symm, hf]
      rfl
theorem klt_unit {kd : Str} {rk t : List Int} (g : GoodO kd rk) (ht : t.length = rk.length) (h0 : ∀ x ∈ t, 0 ≤ x) : klt kd rk (List.replicate rk.length 0) t = !decide (t = List.replicate rk.length 0) := by
  by_cases e : t = List.replicate rk.length 0
  · rw [decide_eq_true e]
    unfold klt
    rw [e, lex_lt, decide_eq_false (List.lt_irrefl _)]
    rfl
  · rw [decide_eq_false e]
    have hs : t.sum ≠ 0 := fun z => e (by rw [← ht]; exact (sum_zero h0).2 z)
    have h1 := (sum_zero h0).1
    have er : (List.replicate rk.length (0 : Int)).sum = 0 := by
      have : ∀ n : Nat, (List.replicate n (0 : Int)).sum = 0 := fun n => by
        induction n with
        | zero => rfl
        | succ n ih => rw [List.replicate_succ, List.sum_cons, ih]; rfl
      exact this _
    rw [klt_eq g (by rw [List.length_replicate]) ht, er]
    by_cases hk : kd = ("degree" : Str)
    · rw [if_pos ⟨hk, fun z => hs z.symm⟩, decide_eq_true (by omega)]
      rfl
    · rw [if_neg fun z => hk z.1, decide_eq_false hk]
      refine cmpR_unit h0 (Classical.byContradiction fun hno => e ?_)
      refine List.ext_getElem? fun i => ?_
      by_cases hi : i < rk.length
      · have hz : (i : Int) ∈ rk := g.perm.mem_iff.mpr (List.mem_map.mpr ⟨i, List.mem_range.mpr hi, rfl⟩)
        have q : t.getD i 0 = 0 := Classical.byContradiction fun w => hno ⟨i, hz, by rw [Int.toNat_natCast]; exact w⟩
        rw [List.getD_eq_getElem?_getD, List.getElem?_eq_getElem (by omega)] at q
        rw [List.getElem?_eq_getElem (by omega), List.getElem?_replicate, if_pos hi]
        exact congrArg some q
      · rw [List.getElem?_eq_none (by omega), List.getElem?_eq_none (by rw [List.length_replicate]; omega)]
theorem okey_deg {n : Nat} {ns : List Int} (h : ns.length = n) : okey "degree" (rng n) ns = plc ns := by
  unfold okey
  rw [if_pos rfl, ← h, byRank_rng]
end SpX

set_option Elab.async false
set_option linter.all false
set_option maxRecDepth 100000
set_option maxHeartbeats 4000000
/-! Law k26: the places that are drawn. -/
namespace SpX
open PySem PySem.Spec L2 StX RZ
theorem exp_app {H : Hp} {L : Addr} {xs ys : List V} (hL : H L = some (.lst xs)) {q : Addr} {ms : List Int} (h : ExpAt H q ms) : ExpAt (upd H L (.lst ys)) q ms := by
  have : q ≠ L := fun z => by
    rw [z, ExpAt, hL] at h
    cases h
  rw [ExpAt, upd_ne this]
  exact h
theorem rows_app {H : Hp} {L e : Addr} {xs ys : List V} {es : List Addr} {nss : List (List Int)} {ns : List Int} (hL : H L = some (.lst xs)) (h : RowsAt H es nss) (he : ExpAt H e ns) : RowsAt (upd H L (.lst ys)) (es ++ [e]) (nss ++ [ns]) := by
  have r := h.snoc he
  exact ⟨r.1, fun i q ms a b => exp_app hL (r.2 i q ms a b)⟩
def t_olaw_17 (K : PySem.W.Frag) (C Z BO f_oplace : Addr) (E : XK) : TS :=
    (tSeq (tAsg (tLst tNil) (gName 14))
    (tSeq (tAsg (tVar 8) (gName 15))
    (tSeq (tFor (iRng1 (tCons (tCall spTakeB [] E0 (tCons (tVar 1) (tCons (tC (.int 7)) tNil))) tNil)) (gName 16) ((tSeq (tAsg (tCall spONear [] E0 (tCons (tVar 1) (tCons (tVar 15) tNil))) (gName 15))
    (tIfS (tTest (tOp (rNotInP K) (tVar 15) (tVar 14))) (tDrop (tBM K "list" rAppend (tVar 14) (tCons (tVar 15) tNil))) tNext))))
    (tSeq (tIfS (tTest (tOp (rI0 fun i j => .bl (decide (j < i))) (tCB rLenA (tCons (tVar 14) tNil)) (tC (.int 3)))) (tDrop (tBM K "list" rAppend (tVar 14) (tCons (tOp rIx1 (tVar 14) (tC (.int 1))) tNil))) tNext)
    (tSeq (tIfS (tNot (tB (tCall (spOArrs C) [] E0 (tCons (tVar 6) (tCons (tVar 3) (tCons (tVar 4) (tCons (tVar 14) tNil))))))) (tRet (tC (.bl false))) tNext)
    (tSeq (tAsg (tLc (iRng1 (tCons (tCall spTakeB [] E0 (tCons (tVar 1) (tCons (tC (.int 5)) tNil))) tNil)) (gName 16) tYes (tOp (rI0 fun i j => .int (i - j)) (tCall spTakeB [] E0 (tCons (tVar 1) (tCons (tC (.int 5)) tNil))) (tC (.int 1))) [16]) (gName 17))
    (tSeq (tIfS (tOr (tNot (tB (tCall (spOMade C) [] E0 (tCons (tCall spOWord [] E0 (tCons (tVar 1) tNil)) (tCons (tVar 17) tNil))))) (tNot (tB (tCall (spOMade C) [] E0 (tCons (tVar 3) (tCons (tVar 17) tNil)))))) (tRet (tC (.bl false))) tNext)
    (tSeq (tAsg (tCall spTakeB [] E0 (tCons (tVar 1) (tCons (tOp (rI0 fun i j => .int (i + j)) (tCB rLenA (tCons (tVar 14) tNil)) (tC (.int 1))) tNil))) (gName 18))
    (tSeq (tAsg (tOp (rCatT K) (tVar 9) (tTup (tCons (tC (.int 0)) tNil))) (gName 19))
    (tSeq (tIfS (tAnd (tTest (tOp (rI0 fun i j => .bl (decide (j < i))) (tVar 2) (tC (.int 1)))) (tTest (tOp rEq (tCall spTakeB [] E0 (tCons (tVar 1) (tCons (tC (.int 2)) tNil))) (tC (.int 0))))) (tAsg (tSl (rSlT K) (tVar 9) (tPart (tC (.int 1))) tNoPart) (gName 19)) tNext)
    (tSeq (tIfS (tOr (tNot (tB (tCall (spNPrec C) [] E0 (tCons (tVar 6) (tCons (tVar 19) (tCons (tVar 8) tNil)))))) (tNot (tB (tCall (spNPrec C) [] E0 (tCons (tVar 6) (tCons (tVar 8) (tCons (tVar 19) tNil))))))) (tRet (tC (.bl false))) tNext)
    (tRet (tCall (spNArr C) [] E0 (tCons (tVar 6) (tCons (tOp rCat (tOp rCat (tSl rSlA (tVar 14) tNoPart (tPart (tVar 18))) (tLst (tCons (tVar 19) tNil))) (tSl rSlA (tVar 14) (tPart (tVar 18)) tNoPart)) tNil)))))))))))))))
section
variable {K : PySem.W.Frag} {C Z BO f_oplace : Addr}
theorem olaw_17 {H : Hp} {Q : VK} {E : XK} {P R O one two : Addr} {kd : Str} {rk n1 n2 : List Int} {s0 s5 s7 s10 s11 s12 s13 s20 : Option V} (hp : PoolB NoB H P) (nR : R ≠ P) (ho : OrdAt C H O kd rk) (g : GoodO kd rk) (hR : H R = some (.lst (rk.map V.int)))
    (h1 : ExpAt H one n1) (h2 : ExpAt H two n2) (l1 : n1.length = rk.length) (l2 : n2.length = rk.length) (z1 : ∀ x ∈ n1, 0 ≤ x) (k : ∀ H', Q (.bl true) H') :
    t_olaw_17 K C Z BO f_oplace E { nx := fun _ H' => Q .non H', rt := Q } [s0, some (.ref P), some (.int rk.length), some (.str kd), some (.ref R), s5, some (.ref O), s7, some (.ref one), some (.ref two), s10, s11, s12, s13, none, none, none, none, none, none, s20] H := by
  have glo := g.lo
  have ghi := g.hi
  unfold t_olaw_17
  rw [x_seq]
  simp only [x_if, x_test, x_B, x_op, x_un, x_varS, x_var0, x_c, x_I0, x_I, x_U, x_bl, x_ret, x_next, x_eqS, x_neS, x_m0, x_m1, x_isStr, x_SM, x_addT, x_slS, x_lenS, x_strI, x_mulS, x_startT, x_findT, x_preT, x_lstT, x_ascT, x_digT, x_jn, x_js0, x_js1, x_isS, x_fmt, x_fmtS, x_divW, x_truK, x_truS, x_raiseT, x_asg, x_name, x_set0, x_setS, x_drop, x_cb, x_cons, x_nil, x_int1, x_abs1, x_max2, x_gcd, x_gsub, x_sl, x_part, x_nopart, x_int, x_call, x_lst, x_tup, x_not, x_and, x_or, x_andV, x_orV, x_notV, x_ifE, x_eqI, x_neI, x_eqB, x_neB, x_tbm, x_never, x_make, x_meth, x_isII, x_isIC, x_bool1, decide_eq_true_eq, Bool.false_eq_true, if_false, if_true, List.append_nil, List.nil_append, List.cons_append]
  refine ⟨by decide, fun L hL => ?_⟩
  have nLP := lst_ne hp hL
  have hp1 : PoolB (fun b => NoB b ∨ b = L) (upd H L (.lst [])) P := hp.more hL
  have hL1 : (upd H L (.lst [])) L = some (.lst (([] : List Addr).map V.ref)) := upd_same
  have k1 : ∀ b o, b ≠ L → H b = some o → (upd H L (.lst [])) b = some o := fun b o hb e => by rw [upd_ne hb]; exact e
  have x1 : ExpAt (upd H L (.lst [])) one n1 := Same.new hL _ _ h1
  generalize (upd H L (.lst [])) = H1 at hp1 hL1 k1 x1 ⊢
  have hLH : ∀ {b : Addr} {o : HO}, H b = some o → b ≠ L := fun {b o} e z => by
    rw [z, hL] at e
    cases e
  try dsimp only
  rw [x_seq]
  simp only [x_if, x_test, x_B, x_op, x_un, x_varS, x_var0, x_c, x_I0, x_I, x_U, x_bl, x_ret, x_next, x_eqS, x_neS, x_m0, x_m1, x_isStr, x_SM, x_addT, x_slS, x_lenS, x_strI, x_mulS, x_startT, x_findT, x_preT, x_lstT, x_ascT, x_digT, x_jn, x_js0, x_js1, x_isS, x_fmt, x_fmtS, x_divW, x_truK, x_truS, x_raiseT, x_asg, x_name, x_set0, x_setS, x_drop, x_cb, x_cons, x_nil, x_int1, x_abs1, x_max2, x_gcd, x_gsub, x_sl, x_part, x_nopart, x_int, x_call, x_lst, x_tup, x_not, x_and, x_or, x_andV, x_orV, x_notV, x_ifE, x_eqI, x_neI, x_eqB, x_neB, x_tbm, x_never, x_make, x_meth, x_isII, x_isIC, x_bool1, decide_eq_true_eq, Bool.false_eq_true, if_false, if_true, List.append_nil, List.nil_append, List.cons_append]
  rw [x_seq, x_forR]
  simp only [x_if, x_test, x_B, x_op, x_un, x_varS, x_var0, x_c, x_I0, x_I, x_U, x_bl, x_ret, x_next, x_eqS, x_neS, x_m0, x_m1, x_isStr, x_SM, x_addT, x_slS, x_lenS, x_strI, x_mulS, x_startT, x_findT, x_preT, x_lstT, x_ascT, x_digT, x_jn, x_js0, x_js1, x_isS, x_fmt, x_fmtS, x_divW, x_truK, x_truS, x_raiseT, x_asg, x_name, x_set0, x_setS, x_drop, x_cb, x_cons, x_nil, x_int1, x_abs1, x_max2, x_gcd, x_gsub, x_sl, x_part, x_nopart, x_int, x_call, x_lst, x_tup, x_not, x_and, x_or, x_andV, x_orV, x_notV, x_ifE, x_eqI, x_neI, x_eqB, x_neB, x_tbm, x_never, x_make, x_meth, x_isII, x_isIC, x_bool1, decide_eq_true_eq, Bool.false_eq_true, if_false, if_true, List.append_nil, List.nil_append, List.cons_append]
  have there : ∀ {H' : Hp} {xs : List V}, H' L = some (.lst xs) → There (fun b => NoB b ∨ b = L) H' := fun {H' xs} e b hb => by
    rcases hb with z | z
    · exact z.elim
    · exact ⟨_, by rw [z]; exact e⟩
  refine take_to hp1 (there hL1) (by decide) (by decide) fun n H2 hp2 k2 r0 r1 => ?_
  have r1 := r1 (by decide)
  refine for_rngE (j := n) (fun QA => by simp only [x_if, x_test, x_B, x_op, x_un, x_varS, x_var0, x_c, x_I0, x_I, x_U, x_bl, x_ret, x_next, x_eqS, x_neS, x_m0, x_m1, x_isStr, x_SM, x_addT, x_slS, x_lenS, x_strI, x_mulS, x_startT, x_findT, x_preT, x_lstT, x_ascT, x_digT, x_jn, x_js0, x_js1, x_isS, x_fmt, x_fmtS, x_divW, x_truK, x_truS, x_raiseT, x_asg, x_name, x_set0, x_setS, x_drop, x_cb, x_cons, x_nil, x_int1, x_abs1, x_max2, x_gcd, x_gsub, x_sl, x_part, x_nopart, x_int, x_call, x_lst, x_tup, x_not, x_and, x_or, x_andV, x_orV, x_notV, x_ifE, x_eqI, x_neI, x_eqB, x_neB, x_tbm, x_never, x_make, x_meth, x_isII, x_isIC, x_bool1, decide_eq_true_eq, Bool.false_eq_true, if_false, if_true, List.append_nil, List.nil_append, List.cons_append]) (by omega) (fun i σ H' => PoolB (fun b => NoB b ∨ b = L) H' P ∧ (∀ b o, b ≠ P → b ≠ L → H b = some o → H' b = some o) ∧ ∃ (bq : Addr) (bn : List Int) (es : List Addr) (nss : List (List Int)) (w16 : Option V),
      σ = [s0, some (.ref P), some (.int rk.length), some (.str kd), some (.ref R), s5, some (.ref O), s7, some (.ref one), some (.ref two), s10, s11, s12, s13, some (.ref L), some (.ref bq), w16, none, none, none, s20] ∧ H' L = some (.lst (es.map V.ref)) ∧ RowsAt H' es nss ∧ (∀ ns ∈ nss, ns.length = rk.length) ∧ es.length ≤ i ∧ ExpAt H' bq bn ∧ bn.length = rk.length ∧ ∀ x ∈ bn, 0 ≤ x)
    ⟨hp2, fun b o hb hbl e => k2 _ _ hb (k1 _ _ hbl e), one, n1, [], [], none, rfl, k2 _ _ nLP hL1, ⟨rfl, fun i q ns h => by simp at h⟩, fun _ h => by simp at h, Nat.zero_le _, exp_keep x1 hp1 k2, l1, z1⟩ ?_ ?_
  · rintro i σ H' hi ⟨hpB, kk, bq, bn, es, nss, w16, rfl, hL', rows, lens, le, hb, lb, zb⟩
    simp only [x_name, x_setS, x_set0]
    rw [x_seq]
    simp only [x_if, x_test, x_B, x_op, x_un, x_varS, x_var0, x_c, x_I0, x_I, x_U, x_bl, x_ret, x_next, x_eqS, x_neS, x_m0, x_m1, x_isStr, x_SM, x_addT, x_slS, x_lenS, x_strI, x_mulS, x_startT, x_findT, x_preT, x_lstT, x_ascT, x_digT, x_jn, x_js0, x_js1, x_isS, x_fmt, x_fmtS, x_divW, x_truK, x_truS, x_raiseT, x_asg, x_name, x_set0, x_setS, x_drop, x_cb, x_cons, x_nil, x_int1, x_abs1, x_max2, x_gcd, x_gsub, x_sl, x_part, x_nopart, x_int, x_call, x_lst, x_tup, x_not, x_and, x_or, x_andV, x_orV, x_notV, x_ifE, x_eqI, x_neI, x_eqB, x_neB, x_tbm, x_never, x_make, x_meth, x_isII, x_isIC, x_bool1, decide_eq_true_eq, Bool.false_eq_true, if_false, if_true, List.append_nil, List.nil_append, List.cons_append]
    refine ⟨P, bq, bn, _, rfl, hpB, there hL', hb, by omega, by omega, zb, fun q H3 ms hq lm m0 hp3 k3 => ?_⟩
    have hL3 := k3 _ _ nLP hL'
    have rows3 := rows_keep rows hpB k3
    have kk3 : ∀ b o, b ≠ P → b ≠ L → H b = some o → H3 b = some o := fun b o a c e => k3 _ _ a (kk b o a c e)
    simp only [x_if, x_test, x_B, x_op, x_un, x_varS, x_var0, x_c, x_I0, x_I, x_U, x_bl, x_ret, x_next, x_eqS, x_neS, x_m0, x_m1, x_isStr, x_SM, x_addT, x_slS, x_lenS, x_strI, x_mulS, x_startT, x_findT, x_preT, x_lstT, x_ascT, x_digT, x_jn, x_js0, x_js1, x_isS, x_fmt, x_fmtS, x_divW, x_truK, x_truS, x_raiseT, x_asg, x_name, x_set0, x_setS, x_drop, x_cb, x_cons, x_nil, x_int1, x_abs1, x_max2, x_gcd, x_gsub, x_sl, x_part, x_nopart, x_int, x_call, x_lst, x_tup, x_not, x_and, x_or, x_andV, x_orV, x_notV, x_ifE, x_eqI, x_neI, x_eqB, x_neB, x_tbm, x_never, x_make, x_meth, x_isII, x_isIC, x_bool1, decide_eq_true_eq, Bool.false_eq_true, if_false, if_true, List.append_nil, List.nil_append, List.cons_append]
    refine ⟨tupD ms, nss.map tupD, dp_tup hq, dp_lrows hL3 rows3, plain_tup _, plain_tups _, by
      have : (tupD ms).depth ≤ 1 := by
        unfold tupD
        simp only [PyData.depth, depth_ints]
        omega
      omega, _, rfl, ite2 (fun _ => ?_) fun _ => ?_⟩
    · refine ⟨ty_lst hL3, ?_⟩
      rw [x_append hL3 (by rw [List.length_map]; exact Nat.lt_of_lt_of_le (show es.length < 1000 by omega) (by decide))]
      refine ⟨hp3.put (.inr rfl) nLP, fun b o a c e => by rw [upd_ne c]; exact kk3 b o a c e, q, ms, es ++ [q], nss ++ [ms], _, rfl, by rw [upd_same, List.map_append]; rfl, rows_app hL3 rows3 hq, fun ns hn => ?_, by rw [List.length_append]; show es.length + 1 ≤ i + 1; omega, exp_app hL3 hq, by omega, m0⟩
      rcases List.mem_append.mp hn with h | h
      · exact lens ns h
      · rw [List.mem_singleton.mp h]; omega
    · exact ⟨hp3, kk3, q, ms, es, nss, _, rfl, hL3, rows3, lens, by omega, hq, by omega, m0⟩
  · rintro σ H' ⟨hpB, kk, bq, bn, es, nss, w16, rfl, hL', rows, lens, le, hb, lb, zb⟩
    have les : es.length ≤ 10 := by omega
    have fin : ∀ (H3 : Hp) (es3 : List Addr) (nss3 : List (List Int)), PoolB (fun b => NoB b ∨ b = L) H3 P → (∀ b o, b ≠ P → b ≠ L → H b = some o → H3 b = some o) → H3 L = some (.lst (es3.map V.ref)) → RowsAt H3 es3 nss3 → (∀ ns ∈ nss3, ns.length = rk.length) → es3.length ≤ 20 →
        tSeq (tIfS (tNot (tB (tCall (spOArrs C) [] E0 (tCons (tVar 6) (tCons (tVar 3) (tCons (tVar 4) (tCons (tVar 14) tNil))))))) (tRet (tC (.bl false))) tNext) (t_olaw_22 K C Z BO f_oplace E) { nx := fun _ H' => Q .non H', rt := Q }
          [s0, some (.ref P), some (.int rk.length), some (.str kd), some (.ref R), s5, some (.ref O), s7, some (.ref one), some (.ref two), s10, s11, s12, s13, some (.ref L), some (.ref bq), w16, none, none, none, s20] H3 := by
      intro H3 es3 nss3 hp3 kk3 hL3 rows3 lens3 le3
      have tupk : ∀ {q : Addr} {ms : List Int}, ExpAt H q ms → ExpAt H3 q ms := fun {q ms} e => kk3 _ _ (fun z => by
        obtain ⟨xs, hx⟩ := hp.there
        rw [z, ExpAt, hx] at e
        cases e) (hLH e) e
      have ho3 : OrdAt C H3 O kd rk := by
        obtain ⟨dx, o, a, b⟩ := id ho
        refine ⟨dx, o, kk3 _ _ (fun z => ?_) (hLH a) a, tupk b⟩
        obtain ⟨xs, hx⟩ := hp.there
        rw [z, hx] at a
        cases a
      have hR3 := kk3 _ _ nR (hLH hR) hR
      rw [x_seq]
      simp only [x_if, x_test, x_B, x_op, x_un, x_varS, x_var0, x_c, x_I0, x_I, x_U, x_bl, x_ret, x_next, x_eqS, x_neS, x_m0, x_m1, x_isStr, x_SM, x_addT, x_slS, x_lenS, x_strI, x_mulS, x_startT, x_findT, x_preT, x_lstT, x_ascT, x_digT, x_jn, x_js0, x_js1, x_isS, x_fmt, x_fmtS, x_divW, x_truK, x_truS, x_raiseT, x_asg, x_name, x_set0, x_setS, x_drop, x_cb, x_cons, x_nil, x_int1, x_abs1, x_max2, x_gcd, x_gsub, x_sl, x_part, x_nopart, x_int, x_call, x_lst, x_tup, x_not, x_and, x_or, x_andV, x_orV, x_notV, x_ifE, x_eqI, x_neI, x_eqB, x_neB, x_tbm, x_never, x_make, x_meth, x_isII, x_isIC, x_bool1, decide_eq_true_eq, Bool.false_eq_true, if_false, if_true, List.append_nil, List.nil_append, List.cons_append]
      refine ⟨O, R, L, kd, rk, es3, nss3, rfl, ho3, g, hR3, hL3, rows3, lens3, by omega, fun H4 s4 => ?_⟩
      simp only [x_if, x_test, x_B, x_op, x_un, x_varS, x_var0, x_c, x_I0, x_I, x_U, x_bl, x_ret, x_next, x_eqS, x_neS, x_m0, x_m1, x_isStr, x_SM, x_addT, x_slS, x_lenS, x_strI, x_mulS, x_startT, x_findT, x_preT, x_lstT, x_ascT, x_digT, x_jn, x_js0, x_js1, x_isS, x_fmt, x_fmtS, x_divW, x_truK, x_truS, x_raiseT, x_asg, x_name, x_set0, x_setS, x_drop, x_cb, x_cons, x_nil, x_int1, x_abs1, x_max2, x_gcd, x_gsub, x_sl, x_part, x_nopart, x_int, x_call, x_lst, x_tup, x_not, x_and, x_or, x_andV, x_orV, x_notV, x_ifE, x_eqI, x_neI, x_eqB, x_neB, x_tbm, x_never, x_make, x_meth, x_isII, x_isIC, x_bool1, decide_eq_true_eq, Bool.false_eq_true, if_false, if_true, List.append_nil, List.nil_append, List.cons_append, Bool.not_true]
      exact olaw_22 ((hp3.less fun b z => z.elim).same s4) nR nLP (ho3.same s4) g (s4 _ _ hR3) (s4 _ _ (tupk h1)) (s4 _ _ (tupk h2)) l1 l2 (s4 _ _ hL3) (rows3.same s4) (by omega) k
    show tSeq (tIfS (tTest (tOp (rI0 fun i j => .bl (decide (j < i))) (tCB rLenA (tCons (tVar 14) tNil)) (tC (.int 3)))) (tDrop (tBM K "list" rAppend (tVar 14) (tCons (tOp rIx1 (tVar 14) (tC (.int 1))) tNil))) tNext) (tSeq _ (t_olaw_22 K C Z BO f_oplace E)) _ _ H'
    rw [x_seq]
    simp only [x_if, x_test, x_B, x_op, x_un, x_varS, x_var0, x_c, x_I0, x_I, x_U, x_bl, x_ret, x_next, x_eqS, x_neS, x_m0, x_m1, x_isStr, x_SM, x_addT, x_slS, x_lenS, x_strI, x_mulS, x_startT, x_findT, x_preT, x_lstT, x_ascT, x_digT, x_jn, x_js0, x_js1, x_isS, x_fmt, x_fmtS, x_divW, x_truK, x_truS, x_raiseT, x_asg, x_name, x_set0, x_setS, x_drop, x_cb, x_cons, x_nil, x_int1, x_abs1, x_max2, x_gcd, x_gsub, x_sl, x_part, x_nopart, x_int, x_call, x_lst, x_tup, x_not, x_and, x_or, x_andV, x_orV, x_notV, x_ifE, x_eqI, x_neI, x_eqB, x_neB, x_tbm, x_never, x_make, x_meth, x_isII, x_isIC, x_bool1, decide_eq_true_eq, Bool.false_eq_true, if_false, if_true, List.append_nil, List.nil_append, List.cons_append, x_lenA hL', List.length_map]
    refine ite2 (fun h3 => ?_) fun _ => fin H' es nss hpB kk hL' rows lens (by omega)
    have ll := rows.1
    have hl1 : 1 < es.length := by omega
    have he1 : atI (es.map V.ref) 1 = some (.ref (es[1]'hl1)) := atI_nat (j := 1) (by rw [List.getElem?_map, List.getElem?_eq_getElem hl1]; rfl)
    have hn1 : nss[1]? = some (nss[1]'(by omega)) := List.getElem?_eq_getElem (by omega)
    refine ⟨ty_lst hL', ?_⟩
    rw [x_ix hL' he1, x_append hL' (by rw [List.length_map]; exact Nat.lt_of_lt_of_le (show es.length < 1000 by omega) (by decide))]
    refine fin _ (es ++ [es[1]'(by omega)]) (nss ++ [nss[1]'(by omega)]) (hpB.put (.inr rfl) nLP) (fun b o a c e => by rw [upd_ne c]; exact kk b o a c e) (by rw [upd_same, List.map_append]; rfl) (rows_app hL' rows (rows.2 1 _ _ (List.getElem?_eq_getElem (by omega)) hn1)) (fun ns hn => ?_) (by rw [List.length_append]; show es.length + 1 ≤ 20; omega)
    rcases List.mem_append.mp hn with h | h
    · exact lens ns h
    · rw [List.mem_singleton.mp h]
      exact lens _ (List.getElem_mem _)
end
end SpX

set_option Elab.async false
set_option linter.all false
set_option maxRecDepth 100000
set_option maxHeartbeats 4000000
/-! Law k26: pairs of monomials. -/
namespace SpX
open PySem PySem.Spec L2 StX RZ
theorem x_forLO {K : PySem.W.Frag} {te : TE} {g : TG} {tb : TS} {D : Ends} {σ : L2.St} {H : Hp} : tFor (iList K te) g tb D σ H = te σ H (fun v H1 => tFor (iList K (tC v)) g tb D σ H1) := rfl
theorem pr0 {v w : V} : atI [v, w] 0 = some v := rfl
theorem pr1 {v w : V} : atI [v, w] 1 = some w := rfl
theorem two_le {v w : V} : [v, w].length ≤ sizeLine := by show 2 ≤ sizeLine; decide
def PairN (H : Hp) (n : Nat) (v : V) : Prop := ∃ (t e f : Addr) (ns ms : List Int), v = .ref t ∧ H t = some (.tup [.ref e, .ref f]) ∧ ExpAt H e ns ∧ ExpAt H f ms ∧ ns.length = n ∧ ms.length = n
theorem PairN.same {H H' : Hp} {n : Nat} {v : V} (h : PairN H n v) (s : Same H H') : PairN H' n v := by
  obtain ⟨t, e, f, ns, ms, h0, h1, h2, h3, h4⟩ := h
  exact ⟨t, e, f, ns, ms, h0, s _ _ h1, s _ _ h2, s _ _ h3, h4⟩
def t_olaw_14 (K : PySem.W.Frag) (C Z BO f_oplace : Addr) (E : XK) : TS :=
    (tSeq (tIfS (tOr (tNot (tB (tCall (spOIs C) [] E0 (tCons (tVar 6) (tCons (tVar 3) (tCons (tVar 4) tNil)))))) (tNot (tB (tCall (spOUnl C) [] E0 (tCons (tVar 6) (tCons (tVar 3) (tCons (tVar 4) tNil))))))) (tRet (tC (.bl false))) tNext)
    (tSeq (tFor (iList K (tLst (tCons (tTup (tCons (tVar 8) (tCons (tVar 9) tNil))) (tCons (tTup (tCons (tVar 9) (tCons (tVar 8) tNil))) (tCons (tTup (tCons (tVar 8) (tCons (tVar 8) tNil))) (tCons (tTup (tCons (tVar 11) (tCons (tVar 12) tNil))) (tCons (tTup (tCons (tVar 12) (tCons (tVar 11) tNil))) (tCons (tTup (tCons (tVar 7) (tCons (tVar 8) tNil))) (tCons (tTup (tCons (tVar 8) (tCons (tVar 7) tNil))) tNil))))))))) (gName 13) ((tSeq (tIfS (tNot (tB (tCall spSays [] E0 (tCons (tMeth C "precedes" (spOPrec C Z) [] E0 (tVar 6) (tCons (tOp rIx1 (tVar 13) (tC (.int 0))) (tCons (tOp rIx1 (tVar 13) (tC (.int 1))) tNil))) (tCons (tCall spOEarl [] E0 (tCons (tVar 3) (tCons (tVar 4) (tCons (tOp rIx1 (tVar 13) (tC (.int 0))) (tCons (tOp rIx1 (tVar 13) (tC (.int 1))) tNil))))) tNil))))) (tRet (tC (.bl false))) tNext)
    (tSeq (tAsg (tCall spOEarl [] E0 (tCons (tC (.str "degree")) (tCons (tCB rListR (tCons (tCB rRangeV (tCons (tVar 2) tNil)) tNil)) (tCons (tOp rIx1 (tVar 13) (tC (.int 0))) (tCons (tOp rIx1 (tVar 13) (tC (.int 1))) tNil))))) (gName 20))
    (tIfS (tNot (tB (tCall spSays [] E0 (tCons (tCall (spBefore Z) [] E0 (tCons (tOp rIx1 (tVar 13) (tC (.int 0))) (tCons (tOp rIx1 (tVar 13) (tC (.int 1))) tNil))) (tCons (tVar 20) tNil))))) (tRet (tC (.bl false))) tNext)))))
    (tSeq (tIfS (tOr (tTest (tOp rNe (tMeth C "precedes" (spOPrec C Z) [] E0 (tVar 6) (tCons (tVar 8) (tCons (tVar 9) tNil))) (tMeth C "precedes" (spOPrec C Z) [] E0 (tVar 6) (tCons (tVar 11) (tCons (tVar 12) tNil))))) (tTest (tOp rEq (tMeth C "precedes" (spOPrec C Z) [] E0 (tVar 6) (tCons (tVar 7) (tCons (tVar 9) tNil))) (tOp (rEqP K) (tVar 9) (tVar 7))))) (tRet (tC (.bl false))) tNext)
    (tSeq (tAsg (tLst tNil) (gName 14))
    (tSeq (tAsg (tVar 8) (gName 15))
    (tSeq (tFor (iRng1 (tCons (tCall spTakeB [] E0 (tCons (tVar 1) (tCons (tC (.int 7)) tNil))) tNil)) (gName 16) ((tSeq (tAsg (tCall spONear [] E0 (tCons (tVar 1) (tCons (tVar 15) tNil))) (gName 15))
    (tIfS (tTest (tOp (rNotInP K) (tVar 15) (tVar 14))) (tDrop (tBM K "list" rAppend (tVar 14) (tCons (tVar 15) tNil))) tNext))))
    (tSeq (tIfS (tTest (tOp (rI0 fun i j => .bl (decide (j < i))) (tCB rLenA (tCons (tVar 14) tNil)) (tC (.int 3)))) (tDrop (tBM K "list" rAppend (tVar 14) (tCons (tOp rIx1 (tVar 14) (tC (.int 1))) tNil))) tNext)
    (tSeq (tIfS (tNot (tB (tCall (spOArrs C) [] E0 (tCons (tVar 6) (tCons (tVar 3) (tCons (tVar 4) (tCons (tVar 14) tNil))))))) (tRet (tC (.bl false))) tNext)
    (tSeq (tAsg (tLc (iRng1 (tCons (tCall spTakeB [] E0 (tCons (tVar 1) (tCons (tC (.int 5)) tNil))) tNil)) (gName 16) tYes (tOp (rI0 fun i j => .int (i - j)) (tCall spTakeB [] E0 (tCons (tVar 1) (tCons (tC (.int 5)) tNil))) (tC (.int 1))) [16]) (gName 17))
    (tSeq (tIfS (tOr (tNot (tB (tCall (spOMade C) [] E0 (tCons (tCall spOWord [] E0 (tCons (tVar 1) tNil)) (tCons (tVar 17) tNil))))) (tNot (tB (tCall (spOMade C) [] E0 (tCons (tVar 3) (tCons (tVar 17) tNil)))))) (tRet (tC (.bl false))) tNext)
    (tSeq (tAsg (tCall spTakeB [] E0 (tCons (tVar 1) (tCons (tOp (rI0 fun i j => .int (i + j)) (tCB rLenA (tCons (tVar 14) tNil)) (tC (.int 1))) tNil))) (gName 18))
    (tSeq (tAsg (tOp (rCatT K) (tVar 9) (tTup (tCons (tC (.int 0)) tNil))) (gName 19))
    (tSeq (tIfS (tAnd (tTest (tOp (rI0 fun i j => .bl (decide (j < i))) (tVar 2) (tC (.int 1)))) (tTest (tOp rEq (tCall spTakeB [] E0 (tCons (tVar 1) (tCons (tC (.int 2)) tNil))) (tC (.int 0))))) (tAsg (tSl (rSlT K) (tVar 9) (tPart (tC (.int 1))) tNoPart) (gName 19)) tNext)
    (tSeq (tIfS (tOr (tNot (tB (tCall (spNPrec C) [] E0 (tCons (tVar 6) (tCons (tVar 19) (tCons (tVar 8) tNil)))))) (tNot (tB (tCall (spNPrec C) [] E0 (tCons (tVar 6) (tCons (tVar 8) (tCons (tVar 19) tNil))))))) (tRet (tC (.bl false))) tNext)
    (tRet (tCall (spNArr C) [] E0 (tCons (tVar 6) (tCons (tOp rCat (tOp rCat (tSl rSlA (tVar 14) tNoPart (tPart (tVar 18))) (tLst (tCons (tVar 19) tNil))) (tSl rSlA (tVar 14) (tPart (tVar 18)) tNoPart)) tNil))))))))))))))))))
section
variable {K : PySem.W.Frag} {C Z BO f_oplace : Addr}
theorem olaw_14 {H : Hp} {Q : VK} {E : XK} {P R O un one two mo la : Addr} {kd : Str} {rk n1 n2 nf : List Int} {s0 s5 s10 : Option V} (hp : PoolB NoB H P) (nR : R ≠ P) (ho : OrdAt C H O kd rk) (g : GoodO kd rk) (hR : H R = some (.lst (rk.map V.int)))
    (hu : ExpAt H un (List.replicate rk.length 0)) (h1 : ExpAt H one n1) (h2 : ExpAt H two n2) (hm : ExpAt H mo (addv n1 nf)) (hl : ExpAt H la (addv n2 nf)) (l1 : n1.length = rk.length) (l2 : n2.length = rk.length) (lf : nf.length = rk.length) (z1 : ∀ x ∈ n1, 0 ≤ x) (z2 : ∀ x ∈ n2, 0 ≤ x) (k : ∀ H', Q (.bl true) H') :
    t_olaw_14 K C Z BO f_oplace E { nx := fun _ H' => Q .non H', rt := Q } [s0, some (.ref P), some (.int rk.length), some (.str kd), some (.ref R), s5, some (.ref O), some (.ref un), some (.ref one), some (.ref two), s10, some (.ref mo), some (.ref la), none, none, none, none, none, none, none, none] H := by
  have glo := g.lo
  have ghi := g.hi
  have lm := addv_len (a := n1) (b := nf) (by omega)
  have ll := addv_len (a := n2) (b := nf) (by omega)
  have lu : (List.replicate rk.length (0 : Int)).length = rk.length := List.length_replicate
  unfold t_olaw_14
  rw [x_seq]
  simp only [x_if, x_test, x_B, x_op, x_un, x_varS, x_var0, x_c, x_I0, x_I, x_U, x_bl, x_ret, x_next, x_eqS, x_neS, x_m0, x_m1, x_isStr, x_SM, x_addT, x_slS, x_lenS, x_strI, x_mulS, x_startT, x_findT, x_preT, x_lstT, x_ascT, x_digT, x_jn, x_js0, x_js1, x_isS, x_fmt, x_fmtS, x_divW, x_truK, x_truS, x_raiseT, x_asg, x_name, x_set0, x_setS, x_drop, x_cb, x_cons, x_nil, x_int1, x_abs1, x_max2, x_gcd, x_gsub, x_sl, x_part, x_nopart, x_int, x_call, x_lst, x_tup, x_not, x_and, x_or, x_andV, x_orV, x_notV, x_ifE, x_eqI, x_neI, x_eqB, x_neB, x_tbm, x_never, x_make, x_meth, x_isII, x_isIC, x_bool1, decide_eq_true_eq, Bool.false_eq_true, if_false, if_true, List.append_nil, List.nil_append, List.cons_append]
  refine ⟨O, R, kd, rk, rfl, ho, g, hR, ?_⟩
  simp only [x_if, x_test, x_B, x_op, x_un, x_varS, x_var0, x_c, x_I0, x_I, x_U, x_bl, x_ret, x_next, x_eqS, x_neS, x_m0, x_m1, x_isStr, x_SM, x_addT, x_slS, x_lenS, x_strI, x_mulS, x_startT, x_findT, x_preT, x_lstT, x_ascT, x_digT, x_jn, x_js0, x_js1, x_isS, x_fmt, x_fmtS, x_divW, x_truK, x_truS, x_raiseT, x_asg, x_name, x_set0, x_setS, x_drop, x_cb, x_cons, x_nil, x_int1, x_abs1, x_max2, x_gcd, x_gsub, x_sl, x_part, x_nopart, x_int, x_call, x_lst, x_tup, x_not, x_and, x_or, x_andV, x_orV, x_notV, x_ifE, x_eqI, x_neI, x_eqB, x_neB, x_tbm, x_never, x_make, x_meth, x_isII, x_isIC, x_bool1, decide_eq_true_eq, Bool.false_eq_true, if_false, if_true, List.append_nil, List.nil_append, List.cons_append, Bool.not_true]
  refine ⟨O, R, kd, rk, rfl, ho, g, hR, fun H1 s1 => ?_⟩
  simp only [x_if, x_test, x_B, x_op, x_un, x_varS, x_var0, x_c, x_I0, x_I, x_U, x_bl, x_ret, x_next, x_eqS, x_neS, x_m0, x_m1, x_isStr, x_SM, x_addT, x_slS, x_lenS, x_strI, x_mulS, x_startT, x_findT, x_preT, x_lstT, x_ascT, x_digT, x_jn, x_js0, x_js1, x_isS, x_fmt, x_fmtS, x_divW, x_truK, x_truS, x_raiseT, x_asg, x_name, x_set0, x_setS, x_drop, x_cb, x_cons, x_nil, x_int1, x_abs1, x_max2, x_gcd, x_gsub, x_sl, x_part, x_nopart, x_int, x_call, x_lst, x_tup, x_not, x_and, x_or, x_andV, x_orV, x_notV, x_ifE, x_eqI, x_neI, x_eqB, x_neB, x_tbm, x_never, x_make, x_meth, x_isII, x_isIC, x_bool1, decide_eq_true_eq, Bool.false_eq_true, if_false, if_true, List.append_nil, List.nil_append, List.cons_append, Bool.not_true]
  have hp := hp.same s1
  have ho := ho.same s1
  have hR := s1 _ _ hR
  have hu := s1 _ _ hu
  have h1 := s1 _ _ h1
  have h2 := s1 _ _ h2
  have hm := s1 _ _ hm
  have hl := s1 _ _ hl
  rw [x_seq]
  rw [x_forLO]
  simp only [x_if, x_test, x_B, x_op, x_un, x_varS, x_var0, x_c, x_I0, x_I, x_U, x_bl, x_ret, x_next, x_eqS, x_neS, x_m0, x_m1, x_isStr, x_SM, x_addT, x_slS, x_lenS, x_strI, x_mulS, x_startT, x_findT, x_preT, x_lstT, x_ascT, x_digT, x_jn, x_js0, x_js1, x_isS, x_fmt, x_fmtS, x_divW, x_truK, x_truS, x_raiseT, x_asg, x_name, x_set0, x_setS, x_drop, x_cb, x_cons, x_nil, x_int1, x_abs1, x_max2, x_gcd, x_gsub, x_sl, x_part, x_nopart, x_int, x_call, x_lst, x_tup, x_not, x_and, x_or, x_andV, x_orV, x_notV, x_ifE, x_eqI, x_neI, x_eqB, x_neB, x_tbm, x_never, x_make, x_meth, x_isII, x_isIC, x_bool1, decide_eq_true_eq, Bool.false_eq_true, if_false, if_true, List.append_nil, List.nil_append, List.cons_append]
  refine ⟨two_le, fun t1 ht1 => ?_⟩
  have q1 : Same H1 (upd H1 t1 (.tup [.ref one, .ref two])) := Same.new ht1
  have e1 : (upd H1 t1 (.tup [.ref one, .ref two])) t1 = some (.tup [.ref one, .ref two]) := upd_same
  generalize (upd H1 t1 (.tup [.ref one, .ref two])) = G1 at q1 e1 ⊢
  refine ⟨two_le, fun t2 ht2 => ?_⟩
  have q2 : Same G1 (upd G1 t2 (.tup [.ref two, .ref one])) := Same.new ht2
  have e2 : (upd G1 t2 (.tup [.ref two, .ref one])) t2 = some (.tup [.ref two, .ref one]) := upd_same
  generalize (upd G1 t2 (.tup [.ref two, .ref one])) = G2 at q2 e2 ⊢
  refine ⟨two_le, fun t3 ht3 => ?_⟩
  have q3 : Same G2 (upd G2 t3 (.tup [.ref one, .ref one])) := Same.new ht3
  have e3 : (upd G2 t3 (.tup [.ref one, .ref one])) t3 = some (.tup [.ref one, .ref one]) := upd_same
  generalize (upd G2 t3 (.tup [.ref one, .ref one])) = G3 at q3 e3 ⊢
  refine ⟨two_le, fun t4 ht4 => ?_⟩
  have q4 : Same G3 (upd G3 t4 (.tup [.ref mo, .ref la])) := Same.new ht4
  have e4 : (upd G3 t4 (.tup [.ref mo, .ref la])) t4 = some (.tup [.ref mo, .ref la]) := upd_same
  generalize (upd G3 t4 (.tup [.ref mo, .ref la])) = G4 at q4 e4 ⊢
  refine ⟨two_le, fun t5 ht5 => ?_⟩
  have q5 : Same G4 (upd G4 t5 (.tup [.ref la, .ref mo])) := Same.new ht5
  have e5 : (upd G4 t5 (.tup [.ref la, .ref mo])) t5 = some (.tup [.ref la, .ref mo]) := upd_same
  generalize (upd G4 t5 (.tup [.ref la, .ref mo])) = G5 at q5 e5 ⊢
  refine ⟨two_le, fun t6 ht6 => ?_⟩
  have q6 : Same G5 (upd G5 t6 (.tup [.ref un, .ref one])) := Same.new ht6
  have e6 : (upd G5 t6 (.tup [.ref un, .ref one])) t6 = some (.tup [.ref un, .ref one]) := upd_same
  generalize (upd G5 t6 (.tup [.ref un, .ref one])) = G6 at q6 e6 ⊢
  refine ⟨two_le, fun t7 ht7 => ?_⟩
  have q7 : Same G6 (upd G6 t7 (.tup [.ref one, .ref un])) := Same.new ht7
  have e7 : (upd G6 t7 (.tup [.ref one, .ref un])) t7 = some (.tup [.ref one, .ref un]) := upd_same
  generalize (upd G6 t7 (.tup [.ref one, .ref un])) = G7 at q7 e7 ⊢
  refine ⟨by show 7 ≤ sizeLine; decide, fun l hl' => ?_⟩
  have q8 : Same G7 (upd G7 l (.lst [.ref t1, .ref t2, .ref t3, .ref t4, .ref t5, .ref t6, .ref t7])) := Same.new hl'
  have e8 : (upd G7 l (.lst [.ref t1, .ref t2, .ref t3, .ref t4, .ref t5, .ref t6, .ref t7])) l = some (.lst [.ref t1, .ref t2, .ref t3, .ref t4, .ref t5, .ref t6, .ref t7]) := upd_same
  generalize (upd G7 l (.lst [.ref t1, .ref t2, .ref t3, .ref t4, .ref t5, .ref t6, .ref t7])) = G at q8 e8 ⊢
  have w7 : Same G7 G := q8
  have w6 : Same G6 G := q7.trans w7
  have w5 : Same G5 G := q6.trans w6
  have w4 : Same G4 G := q5.trans w5
  have w3 : Same G3 G := q4.trans w4
  have w2 : Same G2 G := q3.trans w3
  have w1 : Same G1 G := q2.trans w2
  have w0 : Same H1 G := q1.trans w1
  have hR := w0 _ _ hR
  have hu := w0 _ _ hu
  have h1 := w0 _ _ h1
  have h2 := w0 _ _ h2
  have hm := w0 _ _ hm
  have hl := w0 _ _ hl
  have hp := hp.same w0
  have ho := ho.same w0
  have all : ∀ v ∈ ([V.ref t1, .ref t2, .ref t3, .ref t4, .ref t5, .ref t6, .ref t7] : List V), PairN G rk.length v := by
    intro v hv
    simp only [List.mem_cons, List.not_mem_nil, or_false] at hv
    rcases hv with h | h | h | h | h | h | h <;> subst h
    · exact ⟨t1, one, two, n1, n2, rfl, w1 _ _ e1, h1, h2, l1, l2⟩
    · exact ⟨t2, two, one, n2, n1, rfl, w2 _ _ e2, h2, h1, l2, l1⟩
    · exact ⟨t3, one, one, n1, n1, rfl, w3 _ _ e3, h1, h1, l1, l1⟩
    · exact ⟨t4, mo, la, (addv n1 nf), (addv n2 nf), rfl, w4 _ _ e4, hm, hl, (by omega), (by omega)⟩
    · exact ⟨t5, la, mo, (addv n2 nf), (addv n1 nf), rfl, w5 _ _ e5, hl, hm, (by omega), (by omega)⟩
    · exact ⟨t6, un, one, (List.replicate rk.length 0), n1, rfl, w6 _ _ e6, hu, h1, lu, l1⟩
    · exact ⟨t7, one, un, n1, (List.replicate rk.length 0), rfl, w7 _ _ e7, h1, hu, l1, lu⟩
  refine for_lstE (a := l) (xs := [.ref t1, .ref t2, .ref t3, .ref t4, .ref t5, .ref t6, .ref t7]) (fun Q => by simp only [x_if, x_test, x_B, x_op, x_un, x_varS, x_var0, x_c, x_I0, x_I, x_U, x_bl, x_ret, x_next, x_eqS, x_neS, x_m0, x_m1, x_isStr, x_SM, x_addT, x_slS, x_lenS, x_strI, x_mulS, x_startT, x_findT, x_preT, x_lstT, x_ascT, x_digT, x_jn, x_js0, x_js1, x_isS, x_fmt, x_fmtS, x_divW, x_truK, x_truS, x_raiseT, x_asg, x_name, x_set0, x_setS, x_drop, x_cb, x_cons, x_nil, x_int1, x_abs1, x_max2, x_gcd, x_gsub, x_sl, x_part, x_nopart, x_int, x_call, x_lst, x_tup, x_not, x_and, x_or, x_andV, x_orV, x_notV, x_ifE, x_eqI, x_neI, x_eqB, x_neB, x_tbm, x_never, x_make, x_meth, x_isII, x_isIC, x_bool1, decide_eq_true_eq, Bool.false_eq_true, if_false, if_true, List.append_nil, List.nil_append, List.cons_append]) (fun i σ H' => Same G H' ∧ ∃ w13 w20, σ = [s0, some (.ref P), some (.int rk.length), some (.str kd), some (.ref R), s5, some (.ref O), some (.ref un), some (.ref one), some (.ref two), s10, some (.ref mo), some (.ref la), w13, none, none, none, none, none, none, w20]) ⟨fun _ _ z => z, _, _, rfl⟩ (fun i σ H' _ h => h.1 _ _ e8) ?_ ?_
  · rintro i v σ H' hv ⟨s, w13, w20, rfl⟩
    obtain ⟨t, e, f, ns, ms, rfl, ht, he, hf, ln, lms⟩ := (all v (List.mem_of_getElem? hv)).same s
    have ho' := ho.same s
    obtain ⟨dx, o, ho1, _⟩ := id ho'
    simp only [x_name, x_setS, x_set0]
    rw [x_seq]
    simp only [x_if, x_test, x_B, x_op, x_un, x_varS, x_var0, x_c, x_I0, x_I, x_U, x_bl, x_ret, x_next, x_eqS, x_neS, x_m0, x_m1, x_isStr, x_SM, x_addT, x_slS, x_lenS, x_strI, x_mulS, x_startT, x_findT, x_preT, x_lstT, x_ascT, x_digT, x_jn, x_js0, x_js1, x_isS, x_fmt, x_fmtS, x_divW, x_truK, x_truS, x_raiseT, x_asg, x_name, x_set0, x_setS, x_drop, x_cb, x_cons, x_nil, x_int1, x_abs1, x_max2, x_gcd, x_gsub, x_sl, x_part, x_nopart, x_int, x_call, x_lst, x_tup, x_not, x_and, x_or, x_andV, x_orV, x_notV, x_ifE, x_eqI, x_neI, x_eqB, x_neB, x_tbm, x_never, x_make, x_meth, x_isII, x_isIC, x_bool1, decide_eq_true_eq, Bool.false_eq_true, if_false, if_true, List.append_nil, List.nil_append, List.cons_append, x_ixT ht pr0, x_ixT ht pr1]
    refine ⟨O, dx, _, rfl, ho1, lk_prec, O, e, f, kd, rk, ns, ms, rfl, ho', g, he, hf, fun z => absurd ⟨ln, lms⟩ z, fun _ _ H2 s2 => ?_⟩
    simp only [x_if, x_test, x_B, x_op, x_un, x_varS, x_var0, x_c, x_I0, x_I, x_U, x_bl, x_ret, x_next, x_eqS, x_neS, x_m0, x_m1, x_isStr, x_SM, x_addT, x_slS, x_lenS, x_strI, x_mulS, x_startT, x_findT, x_preT, x_lstT, x_ascT, x_digT, x_jn, x_js0, x_js1, x_isS, x_fmt, x_fmtS, x_divW, x_truK, x_truS, x_raiseT, x_asg, x_name, x_set0, x_setS, x_drop, x_cb, x_cons, x_nil, x_int1, x_abs1, x_max2, x_gcd, x_gsub, x_sl, x_part, x_nopart, x_int, x_call, x_lst, x_tup, x_not, x_and, x_or, x_andV, x_orV, x_notV, x_ifE, x_eqI, x_neI, x_eqB, x_neB, x_tbm, x_never, x_make, x_meth, x_isII, x_isIC, x_bool1, decide_eq_true_eq, Bool.false_eq_true, if_false, if_true, List.append_nil, List.nil_append, List.cons_append, x_ixT (s2 _ _ ht) pr0, x_ixT (s2 _ _ ht) pr1]
    refine ⟨R, e, f, kd, rk, ns, ms, rfl, g, s2 _ _ (s _ _ hR), s2 _ _ he, s2 _ _ hf, ln, lms, _, _, rfl, ?_⟩
    simp only [decide_true, x_if, x_test, x_B, x_op, x_un, x_varS, x_var0, x_c, x_I0, x_I, x_U, x_bl, x_ret, x_next, x_eqS, x_neS, x_m0, x_m1, x_isStr, x_SM, x_addT, x_slS, x_lenS, x_strI, x_mulS, x_startT, x_findT, x_preT, x_lstT, x_ascT, x_digT, x_jn, x_js0, x_js1, x_isS, x_fmt, x_fmtS, x_divW, x_truK, x_truS, x_raiseT, x_asg, x_name, x_set0, x_setS, x_drop, x_cb, x_cons, x_nil, x_int1, x_abs1, x_max2, x_gcd, x_gsub, x_sl, x_part, x_nopart, x_int, x_call, x_lst, x_tup, x_not, x_and, x_or, x_andV, x_orV, x_notV, x_ifE, x_eqI, x_neI, x_eqB, x_neB, x_tbm, x_never, x_make, x_meth, x_isII, x_isIC, x_bool1, decide_eq_true_eq, Bool.false_eq_true, if_false, if_true, List.append_nil, List.nil_append, List.cons_append, Bool.not_true]
    rw [x_seq]
    simp only [x_if, x_test, x_B, x_op, x_un, x_varS, x_var0, x_c, x_I0, x_I, x_U, x_bl, x_ret, x_next, x_eqS, x_neS, x_m0, x_m1, x_isStr, x_SM, x_addT, x_slS, x_lenS, x_strI, x_mulS, x_startT, x_findT, x_preT, x_lstT, x_ascT, x_digT, x_jn, x_js0, x_js1, x_isS, x_fmt, x_fmtS, x_divW, x_truK, x_truS, x_raiseT, x_asg, x_name, x_set0, x_setS, x_drop, x_cb, x_cons, x_nil, x_int1, x_abs1, x_max2, x_gcd, x_gsub, x_sl, x_part, x_nopart, x_int, x_call, x_lst, x_tup, x_not, x_and, x_or, x_andV, x_orV, x_notV, x_ifE, x_eqI, x_neI, x_eqB, x_neB, x_tbm, x_never, x_make, x_meth, x_isII, x_isIC, x_bool1, decide_eq_true_eq, Bool.false_eq_true, if_false, if_true, List.append_nil, List.nil_append, List.cons_append]
    refine ⟨(rk.length : Int), rfl, fun p2 hp2 => ⟨p2, _, rfl, upd_same, by omega, by omega, fun L hL => ?_⟩⟩
    have s3 := Same.new' (o := .lst (upTo rk.length)) (Same.new' (o := .rng 0 rk.length) s2 hp2) hL
    simp only [x_if, x_test, x_B, x_op, x_un, x_varS, x_var0, x_c, x_I0, x_I, x_U, x_bl, x_ret, x_next, x_eqS, x_neS, x_m0, x_m1, x_isStr, x_SM, x_addT, x_slS, x_lenS, x_strI, x_mulS, x_startT, x_findT, x_preT, x_lstT, x_ascT, x_digT, x_jn, x_js0, x_js1, x_isS, x_fmt, x_fmtS, x_divW, x_truK, x_truS, x_raiseT, x_asg, x_name, x_set0, x_setS, x_drop, x_cb, x_cons, x_nil, x_int1, x_abs1, x_max2, x_gcd, x_gsub, x_sl, x_part, x_nopart, x_int, x_call, x_lst, x_tup, x_not, x_and, x_or, x_andV, x_orV, x_notV, x_ifE, x_eqI, x_neI, x_eqB, x_neB, x_tbm, x_never, x_make, x_meth, x_isII, x_isIC, x_bool1, decide_eq_true_eq, Bool.false_eq_true, if_false, if_true, List.append_nil, List.nil_append, List.cons_append, x_ixT (s3 _ _ ht) pr0, x_ixT (s3 _ _ ht) pr1]
    have er : (rng rk.length).length = rk.length := by unfold rng; rw [List.length_map, List.length_range]
    refine ⟨L, e, f, "degree", rng rk.length, ns, ms, rfl, rng_good _ (.inl rfl) glo ghi, by rw [upd_same, upTo_rng], s3 _ _ he, s3 _ _ hf, by omega, by omega, ?_⟩
    rw [okey_deg ln, okey_deg lms]
    simp only [x_if, x_test, x_B, x_op, x_un, x_varS, x_var0, x_c, x_I0, x_I, x_U, x_bl, x_ret, x_next, x_eqS, x_neS, x_m0, x_m1, x_isStr, x_SM, x_addT, x_slS, x_lenS, x_strI, x_mulS, x_startT, x_findT, x_preT, x_lstT, x_ascT, x_digT, x_jn, x_js0, x_js1, x_isS, x_fmt, x_fmtS, x_divW, x_truK, x_truS, x_raiseT, x_asg, x_name, x_set0, x_setS, x_drop, x_cb, x_cons, x_nil, x_int1, x_abs1, x_max2, x_gcd, x_gsub, x_sl, x_part, x_nopart, x_int, x_call, x_lst, x_tup, x_not, x_and, x_or, x_andV, x_orV, x_notV, x_ifE, x_eqI, x_neI, x_eqB, x_neB, x_tbm, x_never, x_make, x_meth, x_isII, x_isIC, x_bool1, decide_eq_true_eq, Bool.false_eq_true, if_false, if_true, List.append_nil, List.nil_append, List.cons_append, x_ixT (s3 _ _ ht) pr0, x_ixT (s3 _ _ ht) pr1]
    refine ⟨e, f, ns, ms, rfl, s3 _ _ he, s3 _ _ hf, fun z => absurd (show Pair ns ms from ⟨by omega, by omega, by omega⟩) z, fun _ H4 s4 => ⟨_, _, rfl, ?_⟩⟩
    simp only [decide_true, x_if, x_test, x_B, x_op, x_un, x_varS, x_var0, x_c, x_I0, x_I, x_U, x_bl, x_ret, x_next, x_eqS, x_neS, x_m0, x_m1, x_isStr, x_SM, x_addT, x_slS, x_lenS, x_strI, x_mulS, x_startT, x_findT, x_preT, x_lstT, x_ascT, x_digT, x_jn, x_js0, x_js1, x_isS, x_fmt, x_fmtS, x_divW, x_truK, x_truS, x_raiseT, x_asg, x_name, x_set0, x_setS, x_drop, x_cb, x_cons, x_nil, x_int1, x_abs1, x_max2, x_gcd, x_gsub, x_sl, x_part, x_nopart, x_int, x_call, x_lst, x_tup, x_not, x_and, x_or, x_andV, x_orV, x_notV, x_ifE, x_eqI, x_neI, x_eqB, x_neB, x_tbm, x_never, x_make, x_meth, x_isII, x_isIC, x_bool1, decide_eq_true_eq, Bool.false_eq_true, if_false, if_true, List.append_nil, List.nil_append, List.cons_append, Bool.not_true]
    exact ⟨(s.trans s3).trans s4, _, _, rfl⟩
  · rintro σ H' ⟨s, w13, w20, rfl⟩
    have ho' := ho.same s
    obtain ⟨dx, o, ho1, _⟩ := id ho'
    dsimp only
    rw [x_seq]
    simp only [x_if, x_test, x_B, x_op, x_un, x_varS, x_var0, x_c, x_I0, x_I, x_U, x_bl, x_ret, x_next, x_eqS, x_neS, x_m0, x_m1, x_isStr, x_SM, x_addT, x_slS, x_lenS, x_strI, x_mulS, x_startT, x_findT, x_preT, x_lstT, x_ascT, x_digT, x_jn, x_js0, x_js1, x_isS, x_fmt, x_fmtS, x_divW, x_truK, x_truS, x_raiseT, x_asg, x_name, x_set0, x_setS, x_drop, x_cb, x_cons, x_nil, x_int1, x_abs1, x_max2, x_gcd, x_gsub, x_sl, x_part, x_nopart, x_int, x_call, x_lst, x_tup, x_not, x_and, x_or, x_andV, x_orV, x_notV, x_ifE, x_eqI, x_neI, x_eqB, x_neB, x_tbm, x_never, x_make, x_meth, x_isII, x_isIC, x_bool1, decide_eq_true_eq, Bool.false_eq_true, if_false, if_true, List.append_nil, List.nil_append, List.cons_append]
    refine ⟨O, dx, _, rfl, ho1, lk_prec, O, one, two, kd, rk, n1, n2, rfl, ho', g, s _ _ h1, s _ _ h2, fun z => absurd ⟨l1, l2⟩ z, fun _ _ H2 s2 => ?_⟩
    have u2 := s.trans s2
    refine ⟨O, dx, _, rfl, s2 _ _ ho1, lk_prec, O, mo, la, kd, rk, _, _, rfl, ho'.same s2, g, u2 _ _ hm, u2 _ _ hl, fun z => absurd ⟨by omega, by omega⟩ z, fun _ _ H3 s3 => ?_⟩
    have u3 := u2.trans s3
    have ka := klt_add g l1 l2 lf
    unfold klt at ka
    rw [ka]
    simp only [x_if, x_test, x_B, x_op, x_un, x_varS, x_var0, x_c, x_I0, x_I, x_U, x_bl, x_ret, x_next, x_eqS, x_neS, x_m0, x_m1, x_isStr, x_SM, x_addT, x_slS, x_lenS, x_strI, x_mulS, x_startT, x_findT, x_preT, x_lstT, x_ascT, x_digT, x_jn, x_js0, x_js1, x_isS, x_fmt, x_fmtS, x_divW, x_truK, x_truS, x_raiseT, x_asg, x_name, x_set0, x_setS, x_drop, x_cb, x_cons, x_nil, x_int1, x_abs1, x_max2, x_gcd, x_gsub, x_sl, x_part, x_nopart, x_int, x_call, x_lst, x_tup, x_not, x_and, x_or, x_andV, x_orV, x_notV, x_ifE, x_eqI, x_neI, x_eqB, x_neB, x_tbm, x_never, x_make, x_meth, x_isII, x_isIC, x_bool1, decide_eq_true_eq, Bool.false_eq_true, if_false, if_true, List.append_nil, List.nil_append, List.cons_append, decide_true, Bool.not_true]
    refine ⟨O, dx, _, rfl, s3 _ _ (s2 _ _ ho1), lk_prec, O, un, two, kd, rk, _, n2, rfl, (ho'.same s2).same s3, g, u3 _ _ hu, u3 _ _ h2, fun z => absurd ⟨lu, l2⟩ z, fun _ _ H4 s4 => ?_⟩
    have u4 := u3.trans s4
    refine ⟨tupD n2, tupD (List.replicate rk.length 0), dp_tup (u4 _ _ h2), dp_tup (u4 _ _ hu), plain_tup _, plain_tup _, depth_tup _, ?_⟩
    have ku := klt_unit g l2 z2
    unfold klt at ku
    rw [ku, eqv_tup]
    simp only [x_if, x_test, x_B, x_op, x_un, x_varS, x_var0, x_c, x_I0, x_I, x_U, x_bl, x_ret, x_next, x_eqS, x_neS, x_m0, x_m1, x_isStr, x_SM, x_addT, x_slS, x_lenS, x_strI, x_mulS, x_startT, x_findT, x_preT, x_lstT, x_ascT, x_digT, x_jn, x_js0, x_js1, x_isS, x_fmt, x_fmtS, x_divW, x_truK, x_truS, x_raiseT, x_asg, x_name, x_set0, x_setS, x_drop, x_cb, x_cons, x_nil, x_int1, x_abs1, x_max2, x_gcd, x_gsub, x_sl, x_part, x_nopart, x_int, x_call, x_lst, x_tup, x_not, x_and, x_or, x_andV, x_orV, x_notV, x_ifE, x_eqI, x_neI, x_eqB, x_neB, x_tbm, x_never, x_make, x_meth, x_isII, x_isIC, x_bool1, decide_eq_true_eq, Bool.false_eq_true, if_false, if_true, List.append_nil, List.nil_append, List.cons_append]
    rw [if_neg (by cases decide (n2 = List.replicate rk.length 0) <;> simp)]
    exact olaw_17 (K := K) (Z := Z) (BO := BO) (f_oplace := f_oplace) (E := E) (hp.same u4) nR (ho.same u4) g (u4 _ _ hR) (u4 _ _ h1) (u4 _ _ h2) l1 l2 z1 k
end
end SpX

set_option Elab.async false
set_option linter.all false
set_option maxRecDepth 100000
set_option maxHeartbeats 4000000
/-! Law k26: the law's own text. -/
namespace SpX
open PySem PySem.Spec L2 StX RZ
def spLaw (K : PySem.W.Frag) : Sp := fun vs H Q _ => ∃ (a : Addr) (ns : List Int), vs = [.ref a] ∧ SqL K H a (ns.map V.int) ∧ ns.length ≤ 63 ∧ ∀ H', Q (.bl true) H'
def t_olaw_8 (K : PySem.W.Frag) (C Z BO f_oplace : Addr) (E : XK) : TS :=
    (tSeq (tAsg (tCB rTupA (tCons (tOp rRep (tLst (tCons (tC (.int 0)) tNil)) (tVar 2)) tNil)) (gName 7))
    (tSeq (tAsg (tCall spONear [] E0 (tCons (tVar 1) (tCons (tVar 7) tNil))) (gName 8))
    (tSeq (tAsg (tCall spONear [] E0 (tCons (tVar 1) (tCons (tVar 8) tNil))) (gName 9))
    (tSeq (tAsg (tCall spONear [] E0 (tCons (tVar 1) (tCons (tVar 9) tNil))) (gName 10))
    (tSeq (tAsg (tCB rTupA (tCons (tLc (iRng1 (tCons (tVar 2) tNil)) (gName 16) tYes (tOp (rI0 fun i j => .int (i + j)) (tOp rIx1 (tVar 8) (tVar 16)) (tOp rIx1 (tVar 10) (tVar 16))) [16]) tNil)) (gName 11))
    (tSeq (tAsg (tCB rTupA (tCons (tLc (iRng1 (tCons (tVar 2) tNil)) (gName 16) tYes (tOp (rI0 fun i j => .int (i + j)) (tOp rIx1 (tVar 9) (tVar 16)) (tOp rIx1 (tVar 10) (tVar 16))) [16]) tNil)) (gName 12))
    (tSeq (tIfS (tOr (tNot (tB (tCall (spOIs C) [] E0 (tCons (tVar 6) (tCons (tVar 3) (tCons (tVar 4) tNil)))))) (tNot (tB (tCall (spOUnl C) [] E0 (tCons (tVar 6) (tCons (tVar 3) (tCons (tVar 4) tNil))))))) (tRet (tC (.bl false))) tNext)
    (tSeq (tFor (iList K (tLst (tCons (tTup (tCons (tVar 8) (tCons (tVar 9) tNil))) (tCons (tTup (tCons (tVar 9) (tCons (tVar 8) tNil))) (tCons (tTup (tCons (tVar 8) (tCons (tVar 8) tNil))) (tCons (tTup (tCons (tVar 11) (tCons (tVar 12) tNil))) (tCons (tTup (tCons (tVar 12) (tCons (tVar 11) tNil))) (tCons (tTup (tCons (tVar 7) (tCons (tVar 8) tNil))) (tCons (tTup (tCons (tVar 8) (tCons (tVar 7) tNil))) tNil))))))))) (gName 13) ((tSeq (tIfS (tNot (tB (tCall spSays [] E0 (tCons (tMeth C "precedes" (spOPrec C Z) [] E0 (tVar 6) (tCons (tOp rIx1 (tVar 13) (tC (.int 0))) (tCons (tOp rIx1 (tVar 13) (tC (.int 1))) tNil))) (tCons (tCall spOEarl [] E0 (tCons (tVar 3) (tCons (tVar 4) (tCons (tOp rIx1 (tVar 13) (tC (.int 0))) (tCons (tOp rIx1 (tVar 13) (tC (.int 1))) tNil))))) tNil))))) (tRet (tC (.bl false))) tNext)
    (tSeq (tAsg (tCall spOEarl [] E0 (tCons (tC (.str "degree")) (tCons (tCB rListR (tCons (tCB rRangeV (tCons (tVar 2) tNil)) tNil)) (tCons (tOp rIx1 (tVar 13) (tC (.int 0))) (tCons (tOp rIx1 (tVar 13) (tC (.int 1))) tNil))))) (gName 20))
    (tIfS (tNot (tB (tCall spSays [] E0 (tCons (tCall (spBefore Z) [] E0 (tCons (tOp rIx1 (tVar 13) (tC (.int 0))) (tCons (tOp rIx1 (tVar 13) (tC (.int 1))) tNil))) (tCons (tVar 20) tNil))))) (tRet (tC (.bl false))) tNext)))))
    (tSeq (tIfS (tOr (tTest (tOp rNe (tMeth C "precedes" (spOPrec C Z) [] E0 (tVar 6) (tCons (tVar 8) (tCons (tVar 9) tNil))) (tMeth C "precedes" (spOPrec C Z) [] E0 (tVar 6) (tCons (tVar 11) (tCons (tVar 12) tNil))))) (tTest (tOp rEq (tMeth C "precedes" (spOPrec C Z) [] E0 (tVar 6) (tCons (tVar 7) (tCons (tVar 9) tNil))) (tOp (rEqP K) (tVar 9) (tVar 7))))) (tRet (tC (.bl false))) tNext)
    (tSeq (tAsg (tLst tNil) (gName 14))
    (tSeq (tAsg (tVar 8) (gName 15))
    (tSeq (tFor (iRng1 (tCons (tCall spTakeB [] E0 (tCons (tVar 1) (tCons (tC (.int 7)) tNil))) tNil)) (gName 16) ((tSeq (tAsg (tCall spONear [] E0 (tCons (tVar 1) (tCons (tVar 15) tNil))) (gName 15))
    (tIfS (tTest (tOp (rNotInP K) (tVar 15) (tVar 14))) (tDrop (tBM K "list" rAppend (tVar 14) (tCons (tVar 15) tNil))) tNext))))
    (tSeq (tIfS (tTest (tOp (rI0 fun i j => .bl (decide (j < i))) (tCB rLenA (tCons (tVar 14) tNil)) (tC (.int 3)))) (tDrop (tBM K "list" rAppend (tVar 14) (tCons (tOp rIx1 (tVar 14) (tC (.int 1))) tNil))) tNext)
    (tSeq (tIfS (tNot (tB (tCall (spOArrs C) [] E0 (tCons (tVar 6) (tCons (tVar 3) (tCons (tVar 4) (tCons (tVar 14) tNil))))))) (tRet (tC (.bl false))) tNext)
    (tSeq (tAsg (tLc (iRng1 (tCons (tCall spTakeB [] E0 (tCons (tVar 1) (tCons (tC (.int 5)) tNil))) tNil)) (gName 16) tYes (tOp (rI0 fun i j => .int (i - j)) (tCall spTakeB [] E0 (tCons (tVar 1) (tCons (tC (.int 5)) tNil))) (tC (.int 1))) [16]) (gName 17))
    (tSeq (tIfS (tOr (tNot (tB (tCall (spOMade C) [] E0 (tCons (tCall spOWord [] E0 (tCons (tVar 1) tNil)) (tCons (tVar 17) tNil))))) (tNot (tB (tCall (spOMade C) [] E0 (tCons (tVar 3) (tCons (tVar 17) tNil)))))) (tRet (tC (.bl false))) tNext)
    (tSeq (tAsg (tCall spTakeB [] E0 (tCons (tVar 1) (tCons (tOp (rI0 fun i j => .int (i + j)) (tCB rLenA (tCons (tVar 14) tNil)) (tC (.int 1))) tNil))) (gName 18))
    (tSeq (tAsg (tOp (rCatT K) (tVar 9) (tTup (tCons (tC (.int 0)) tNil))) (gName 19))
    (tSeq (tIfS (tAnd (tTest (tOp (rI0 fun i j => .bl (decide (j < i))) (tVar 2) (tC (.int 1)))) (tTest (tOp rEq (tCall spTakeB [] E0 (tCons (tVar 1) (tCons (tC (.int 2)) tNil))) (tC (.int 0))))) (tAsg (tSl (rSlT K) (tVar 9) (tPart (tC (.int 1))) tNoPart) (gName 19)) tNext)
    (tSeq (tIfS (tOr (tNot (tB (tCall (spNPrec C) [] E0 (tCons (tVar 6) (tCons (tVar 19) (tCons (tVar 8) tNil)))))) (tNot (tB (tCall (spNPrec C) [] E0 (tCons (tVar 6) (tCons (tVar 8) (tCons (tVar 19) tNil))))))) (tRet (tC (.bl false))) tNext)
    (tRet (tCall (spNArr C) [] E0 (tCons (tVar 6) (tCons (tOp rCat (tOp rCat (tSl rSlA (tVar 14) tNoPart (tPart (tVar 18))) (tLst (tCons (tVar 19) tNil))) (tSl rSlA (tVar 14) (tPart (tVar 18)) tNoPart)) tNil))))))))))))))))))))))))
def t_olaw (K : PySem.W.Frag) (C Z BO f_oplace : Addr) (E : XK) : TS :=
    (tSeq (tAsg (tCall (spPoolB K) [] E0 (tCons (tVar 0) tNil)) (gName 1))
    (tSeq (tAsg (tOp (rI0 fun i j => .int (i + j)) (tC (.int 1)) (tCall spTakeB [] E0 (tCons (tVar 1) (tCons (tC (.int 3)) tNil)))) (gName 2))
    (tSeq (tAsg (tOp rIx1 (tLst (tCons (tC (.str "degree")) (tCons (tC (.str "variables")) tNil))) (tCall spTakeB [] E0 (tCons (tVar 1) (tCons (tC (.int 2)) tNil)))) (gName 3))
    (tSeq (tAsg (tCall spORank [] E0 (tCons (tVar 1) (tCons (tVar 2) tNil))) (gName 4))
    (tSeq (tAsg (tCB rListA (tCons (tVar 4) tNil)) (gName 5))
    (tSeq (tAsg (tMake C (spOrder C BO) [] E0 (tCons (tVar 3) (tCons (tVar 5) tNil))) (gName 6))
    (tSeq (tAsg (tOp (rI0 fun i j => .int (i - j)) (tC (.int 2)) (tOp rIx1 (tVar 5) (tC (.int 0)))) (gSub (tVar 5) (tC (.int 0)) rSetL))
    (tSeq (tDrop (tBM K "list" rAppend (tVar 5) (tCons (tC (.int 0)) tNil)))
    (tSeq (tAsg (tCB rTupA (tCons (tOp rRep (tLst (tCons (tC (.int 0)) tNil)) (tVar 2)) tNil)) (gName 7))
    (tSeq (tAsg (tCall spONear [] E0 (tCons (tVar 1) (tCons (tVar 7) tNil))) (gName 8))
    (tSeq (tAsg (tCall spONear [] E0 (tCons (tVar 1) (tCons (tVar 8) tNil))) (gName 9))
    (tSeq (tAsg (tCall spONear [] E0 (tCons (tVar 1) (tCons (tVar 9) tNil))) (gName 10))
    (tSeq (tAsg (tCB rTupA (tCons (tLc (iRng1 (tCons (tVar 2) tNil)) (gName 16) tYes (tOp (rI0 fun i j => .int (i + j)) (tOp rIx1 (tVar 8) (tVar 16)) (tOp rIx1 (tVar 10) (tVar 16))) [16]) tNil)) (gName 11))
    (tSeq (tAsg (tCB rTupA (tCons (tLc (iRng1 (tCons (tVar 2) tNil)) (gName 16) tYes (tOp (rI0 fun i j => .int (i + j)) (tOp rIx1 (tVar 9) (tVar 16)) (tOp rIx1 (tVar 10) (tVar 16))) [16]) tNil)) (gName 12))
    (tSeq (tIfS (tOr (tNot (tB (tCall (spOIs C) [] E0 (tCons (tVar 6) (tCons (tVar 3) (tCons (tVar 4) tNil)))))) (tNot (tB (tCall (spOUnl C) [] E0 (tCons (tVar 6) (tCons (tVar 3) (tCons (tVar 4) tNil))))))) (tRet (tC (.bl false))) tNext)
    (tSeq (tFor (iList K (tLst (tCons (tTup (tCons (tVar 8) (tCons (tVar 9) tNil))) (tCons (tTup (tCons (tVar 9) (tCons (tVar 8) tNil))) (tCons (tTup (tCons (tVar 8) (tCons (tVar 8) tNil))) (tCons (tTup (tCons (tVar 11) (tCons (tVar 12) tNil))) (tCons (tTup (tCons (tVar 12) (tCons (tVar 11) tNil))) (tCons (tTup (tCons (tVar 7) (tCons (tVar 8) tNil))) (tCons (tTup (tCons (tVar 8) (tCons (tVar 7) tNil))) tNil))))))))) (gName 13) ((tSeq (tIfS (tNot (tB (tCall spSays [] E0 (tCons (tMeth C "precedes" (spOPrec C Z) [] E0 (tVar 6) (tCons (tOp rIx1 (tVar 13) (tC (.int 0))) (tCons (tOp rIx1 (tVar 13) (tC (.int 1))) tNil))) (tCons (tCall spOEarl [] E0 (tCons (tVar 3) (tCons (tVar 4) (tCons (tOp rIx1 (tVar 13) (tC (.int 0))) (tCons (tOp rIx1 (tVar 13) (tC (.int 1))) tNil))))) tNil))))) (tRet (tC (.bl false))) tNext)
    (tSeq (tAsg (tCall spOEarl [] E0 (tCons (tC (.str "degree")) (tCons (tCB rListR (tCons (tCB rRangeV (tCons (tVar 2) tNil)) tNil)) (tCons (tOp rIx1 (tVar 13) (tC (.int 0))) (tCons (tOp rIx1 (tVar 13) (tC (.int 1))) tNil))))) (gName 20))
    (tIfS (tNot (tB (tCall spSays [] E0 (tCons (tCall (spBefore Z) [] E0 (tCons (tOp rIx1 (tVar 13) (tC (.int 0))) (tCons (tOp rIx1 (tVar 13) (tC (.int 1))) tNil))) (tCons (tVar 20) tNil))))) (tRet (tC (.bl false))) tNext)))))
    (tSeq (tIfS (tOr (tTest (tOp rNe (tMeth C "precedes" (spOPrec C Z) [] E0 (tVar 6) (tCons (tVar 8) (tCons (tVar 9) tNil))) (tMeth C "precedes" (spOPrec C Z) [] E0 (tVar 6) (tCons (tVar 11) (tCons (tVar 12) tNil))))) (tTest (tOp rEq (tMeth C "precedes" (spOPrec C Z) [] E0 (tVar 6) (tCons (tVar 7) (tCons (tVar 9) tNil))) (tOp (rEqP K) (tVar 9) (tVar 7))))) (tRet (tC (.bl false))) tNext)
    (tSeq (tAsg (tLst tNil) (gName 14))
    (tSeq (tAsg (tVar 8) (gName 15))
    (tSeq (tFor (iRng1 (tCons (tCall spTakeB [] E0 (tCons (tVar 1) (tCons (tC (.int 7)) tNil))) tNil)) (gName 16) ((tSeq (tAsg (tCall spONear [] E0 (tCons (tVar 1) (tCons (tVar 15) tNil))) (gName 15))
    (tIfS (tTest (tOp (rNotInP K) (tVar 15) (tVar 14))) (tDrop (tBM K "list" rAppend (tVar 14) (tCons (tVar 15) tNil))) tNext))))
    (tSeq (tIfS (tTest (tOp (rI0 fun i j => .bl (decide (j < i))) (tCB rLenA (tCons (tVar 14) tNil)) (tC (.int 3)))) (tDrop (tBM K "list" rAppend (tVar 14) (tCons (tOp rIx1 (tVar 14) (tC (.int 1))) tNil))) tNext)
    (tSeq (tIfS (tNot (tB (tCall (spOArrs C) [] E0 (tCons (tVar 6) (tCons (tVar 3) (tCons (tVar 4) (tCons (tVar 14) tNil))))))) (tRet (tC (.bl false))) tNext)
    (tSeq (tAsg (tLc (iRng1 (tCons (tCall spTakeB [] E0 (tCons (tVar 1) (tCons (tC (.int 5)) tNil))) tNil)) (gName 16) tYes (tOp (rI0 fun i j => .int (i - j)) (tCall spTakeB [] E0 (tCons (tVar 1) (tCons (tC (.int 5)) tNil))) (tC (.int 1))) [16]) (gName 17))
    (tSeq (tIfS (tOr (tNot (tB (tCall (spOMade C) [] E0 (tCons (tCall spOWord [] E0 (tCons (tVar 1) tNil)) (tCons (tVar 17) tNil))))) (tNot (tB (tCall (spOMade C) [] E0 (tCons (tVar 3) (tCons (tVar 17) tNil)))))) (tRet (tC (.bl false))) tNext)
    (tSeq (tAsg (tCall spTakeB [] E0 (tCons (tVar 1) (tCons (tOp (rI0 fun i j => .int (i + j)) (tCB rLenA (tCons (tVar 14) tNil)) (tC (.int 1))) tNil))) (gName 18))
    (tSeq (tAsg (tOp (rCatT K) (tVar 9) (tTup (tCons (tC (.int 0)) tNil))) (gName 19))
    (tSeq (tIfS (tAnd (tTest (tOp (rI0 fun i j => .bl (decide (j < i))) (tVar 2) (tC (.int 1)))) (tTest (tOp rEq (tCall spTakeB [] E0 (tCons (tVar 1) (tCons (tC (.int 2)) tNil))) (tC (.int 0))))) (tAsg (tSl (rSlT K) (tVar 9) (tPart (tC (.int 1))) tNoPart) (gName 19)) tNext)
    (tSeq (tIfS (tOr (tNot (tB (tCall (spNPrec C) [] E0 (tCons (tVar 6) (tCons (tVar 19) (tCons (tVar 8) tNil)))))) (tNot (tB (tCall (spNPrec C) [] E0 (tCons (tVar 6) (tCons (tVar 8) (tCons (tVar 19) tNil))))))) (tRet (tC (.bl false))) tNext)
    (tRet (tCall (spNArr C) [] E0 (tCons (tVar 6) (tCons (tOp rCat (tOp rCat (tSl rSlA (tVar 14) tNoPart (tPart (tVar 18))) (tLst (tCons (tVar 19) tNil))) (tSl rSlA (tVar 14) (tPart (tVar 18)) tNoPart)) tNil))))))))))))))))))))))))))))))))
theorem rep_unit {H : Hp} {p : Addr} {n : Nat} {Q : VK} (hp : H p = some (.lst [.int 0])) (hn : n ≤ 10) (k : ∀ t H', Same H H' → ExpAt H' t (List.replicate n 0) → Q (.ref t) H') : rRep (.ref p) (.int n) H (fun x H1 => rTupA [x] H1 Q) := by
  have e : ∀ n : Nat, (List.replicate n [V.int 0]).flatten = (List.replicate n (0 : Int)).map V.int := fun n => by
    induction n with
    | zero => rfl
    | succ n ih => rw [List.replicate_succ, List.flatten_cons, ih, List.replicate_succ]; rfl
  refine ⟨p, n, [.int 0], rfl, rfl, hp, by omega, by omega, ?_, fun q hq => ?_⟩
  · show 1 * (n : Int).toNat ≤ sizeLine
    rw [Int.toNat_natCast]
    exact Nat.le_trans (show 1 * n ≤ 10 by omega) (by decide)
  · rw [Int.toNat_natCast, e]
    exact ⟨q, _, rfl, .inl ⟨upd_same, fun t ht => k t _ (Same.new' (Same.new hq) ht) upd_same⟩⟩
section
variable {K : PySem.W.Frag} {C Z BO f_oplace : Addr}
theorem olaw_8 {H : Hp} {Q : VK} {E : XK} {P R O : Addr} {kd : Str} {rk : List Int} {s0 s5 : Option V} (hp : PoolB NoB H P) (nR : R ≠ P) (ho : OrdAt C H O kd rk) (g : GoodO kd rk) (hR : H R = some (.lst (rk.map V.int))) (k : ∀ H', Q (.bl true) H') :
    t_olaw_8 K C Z BO f_oplace E { nx := fun _ H' => Q .non H', rt := Q } [s0, some (.ref P), some (.int rk.length), some (.str kd), some (.ref R), s5, some (.ref O), none, none, none, none, none, none, none, none, none, none, none, none, none, none] H := by
  have glo := g.lo
  have ghi := g.hi
  unfold t_olaw_8
  rw [x_seq]
  simp only [x_if, x_test, x_B, x_op, x_un, x_varS, x_var0, x_c, x_I0, x_I, x_U, x_bl, x_ret, x_next, x_eqS, x_neS, x_m0, x_m1, x_isStr, x_SM, x_addT, x_slS, x_lenS, x_strI, x_mulS, x_startT, x_findT, x_preT, x_lstT, x_ascT, x_digT, x_jn, x_js0, x_js1, x_isS, x_fmt, x_fmtS, x_divW, x_truK, x_truS, x_raiseT, x_asg, x_name, x_set0, x_setS, x_drop, x_cb, x_cons, x_nil, x_int1, x_abs1, x_max2, x_gcd, x_gsub, x_sl, x_part, x_nopart, x_int, x_call, x_lst, x_tup, x_not, x_and, x_or, x_andV, x_orV, x_notV, x_ifE, x_eqI, x_neI, x_eqB, x_neB, x_tbm, x_never, x_make, x_meth, x_isII, x_isIC, x_bool1, decide_eq_true_eq, Bool.false_eq_true, if_false, if_true, List.append_nil, List.nil_append, List.cons_append]
  refine ⟨by show 1 ≤ sizeLine; decide, fun p0 hp0 => ?_⟩
  refine rep_unit upd_same (by omega) fun un H1 s1 hu => ?_
  have q1 : Same H H1 := fun b o e => s1 _ _ (Same.new hp0 _ _ e)
  have hp1 := hp.same q1
  have lu : (List.replicate rk.length (0 : Int)).length = rk.length := List.length_replicate
  have zu : ∀ x ∈ List.replicate rk.length (0 : Int), 0 ≤ x := fun x hx => by rw [(List.mem_replicate.mp hx).2]; decide
  try dsimp only
  rw [x_seq]
  simp only [x_if, x_test, x_B, x_op, x_un, x_varS, x_var0, x_c, x_I0, x_I, x_U, x_bl, x_ret, x_next, x_eqS, x_neS, x_m0, x_m1, x_isStr, x_SM, x_addT, x_slS, x_lenS, x_strI, x_mulS, x_startT, x_findT, x_preT, x_lstT, x_ascT, x_digT, x_jn, x_js0, x_js1, x_isS, x_fmt, x_fmtS, x_divW, x_truK, x_truS, x_raiseT, x_asg, x_name, x_set0, x_setS, x_drop, x_cb, x_cons, x_nil, x_int1, x_abs1, x_max2, x_gcd, x_gsub, x_sl, x_part, x_nopart, x_int, x_call, x_lst, x_tup, x_not, x_and, x_or, x_andV, x_orV, x_notV, x_ifE, x_eqI, x_neI, x_eqB, x_neB, x_tbm, x_never, x_make, x_meth, x_isII, x_isIC, x_bool1, decide_eq_true_eq, Bool.false_eq_true, if_false, if_true, List.append_nil, List.nil_append, List.cons_append]
  refine ⟨P, un, _, NoB, rfl, hp1, noB, hu, by omega, by omega, zu, fun one H2 n1 h1 l1 z1 hp2 k2 => ?_⟩
  try dsimp only
  rw [x_seq]
  simp only [x_if, x_test, x_B, x_op, x_un, x_varS, x_var0, x_c, x_I0, x_I, x_U, x_bl, x_ret, x_next, x_eqS, x_neS, x_m0, x_m1, x_isStr, x_SM, x_addT, x_slS, x_lenS, x_strI, x_mulS, x_startT, x_findT, x_preT, x_lstT, x_ascT, x_digT, x_jn, x_js0, x_js1, x_isS, x_fmt, x_fmtS, x_divW, x_truK, x_truS, x_raiseT, x_asg, x_name, x_set0, x_setS, x_drop, x_cb, x_cons, x_nil, x_int1, x_abs1, x_max2, x_gcd, x_gsub, x_sl, x_part, x_nopart, x_int, x_call, x_lst, x_tup, x_not, x_and, x_or, x_andV, x_orV, x_notV, x_ifE, x_eqI, x_neI, x_eqB, x_neB, x_tbm, x_never, x_make, x_meth, x_isII, x_isIC, x_bool1, decide_eq_true_eq, Bool.false_eq_true, if_false, if_true, List.append_nil, List.nil_append, List.cons_append]
  refine ⟨P, one, n1, NoB, rfl, hp2, noB, h1, by omega, by omega, z1, fun two H3 n2 h2 l2 z2 hp3 k3 => ?_⟩
  try dsimp only
  rw [x_seq]
  simp only [x_if, x_test, x_B, x_op, x_un, x_varS, x_var0, x_c, x_I0, x_I, x_U, x_bl, x_ret, x_next, x_eqS, x_neS, x_m0, x_m1, x_isStr, x_SM, x_addT, x_slS, x_lenS, x_strI, x_mulS, x_startT, x_findT, x_preT, x_lstT, x_ascT, x_digT, x_jn, x_js0, x_js1, x_isS, x_fmt, x_fmtS, x_divW, x_truK, x_truS, x_raiseT, x_asg, x_name, x_set0, x_setS, x_drop, x_cb, x_cons, x_nil, x_int1, x_abs1, x_max2, x_gcd, x_gsub, x_sl, x_part, x_nopart, x_int, x_call, x_lst, x_tup, x_not, x_and, x_or, x_andV, x_orV, x_notV, x_ifE, x_eqI, x_neI, x_eqB, x_neB, x_tbm, x_never, x_make, x_meth, x_isII, x_isIC, x_bool1, decide_eq_true_eq, Bool.false_eq_true, if_false, if_true, List.append_nil, List.nil_append, List.cons_append]
  refine ⟨P, two, n2, NoB, rfl, hp3, noB, h2, by omega, by omega, z2, fun fac H4 nf hf lf zf hp4 k4 => ?_⟩
  have h1' := exp_keep (exp_keep h1 hp2 k3) hp3 k4
  have h2' := exp_keep h2 hp3 k4
  have hu' := exp_keep (exp_keep (exp_keep hu hp1 k2) hp2 k3) hp3 k4
  have kk := (k2.trans k3).trans k4
  have ho' := ord_keep (ho.same q1) hp1 kk
  have hR' := kk _ _ nR (q1 _ _ hR)
  have ai : ∀ (zs : List Int) (j : Nat), j < zs.length → atI (zs.map V.int) (j : Int) = some (.int (zs.getD j 0)) := fun zs j hj => by
    have := atI_nth (ns := zs) (z := (j : Int)) (by omega) (by omega)
    rwa [Int.toNat_natCast] at this
  try dsimp only
  rw [x_seq]
  simp only [x_if, x_test, x_B, x_op, x_un, x_varS, x_var0, x_c, x_I0, x_I, x_U, x_bl, x_ret, x_next, x_eqS, x_neS, x_m0, x_m1, x_isStr, x_SM, x_addT, x_slS, x_lenS, x_strI, x_mulS, x_startT, x_findT, x_preT, x_lstT, x_ascT, x_digT, x_jn, x_js0, x_js1, x_isS, x_fmt, x_fmtS, x_divW, x_truK, x_truS, x_raiseT, x_asg, x_name, x_set0, x_setS, x_drop, x_cb, x_cons, x_nil, x_int1, x_abs1, x_max2, x_gcd, x_gsub, x_sl, x_part, x_nopart, x_int, x_call, x_lst, x_tup, x_not, x_and, x_or, x_andV, x_orV, x_notV, x_ifE, x_eqI, x_neI, x_eqB, x_neB, x_tbm, x_never, x_make, x_meth, x_isII, x_isIC, x_bool1, decide_eq_true_eq, Bool.false_eq_true, if_false, if_true, List.append_nil, List.nil_append, List.cons_append]
  refine lc_pureR (n := rk.length) (fun j => V.int (n1.getD j 0 + nf.getD j 0)) (fun QA => by simp only [x_if, x_test, x_B, x_op, x_un, x_varS, x_var0, x_c, x_I0, x_I, x_U, x_bl, x_ret, x_next, x_eqS, x_neS, x_m0, x_m1, x_isStr, x_SM, x_addT, x_slS, x_lenS, x_strI, x_mulS, x_startT, x_findT, x_preT, x_lstT, x_ascT, x_digT, x_jn, x_js0, x_js1, x_isS, x_fmt, x_fmtS, x_divW, x_truK, x_truS, x_raiseT, x_asg, x_name, x_set0, x_setS, x_drop, x_cb, x_cons, x_nil, x_int1, x_abs1, x_max2, x_gcd, x_gsub, x_sl, x_part, x_nopart, x_int, x_call, x_lst, x_tup, x_not, x_and, x_or, x_andV, x_orV, x_notV, x_ifE, x_eqI, x_neI, x_eqB, x_neB, x_tbm, x_never, x_make, x_meth, x_isII, x_isIC, x_bool1, decide_eq_true_eq, Bool.false_eq_true, if_false, if_true, List.append_nil, List.nil_append, List.cons_append]) (by omega) (fun j H' QQ hj s kq => ?_) fun D1 H5 s5' hD1 => ?_
  · show tOp _ (tOp rIx1 (tVar 8) (tVar 16)) (tOp rIx1 (tVar 10) (tVar 16)) [s0, some (.ref P), some (.int rk.length), some (.str kd), some (.ref R), s5, some (.ref O), some (.ref un), some (.ref one), some (.ref two), some (.ref fac), none, none, none, none, none, some (.int (j : Int)), none, none, none, none] H' QQ
    simp only [x_if, x_test, x_B, x_op, x_un, x_varS, x_var0, x_c, x_I0, x_I, x_U, x_bl, x_ret, x_next, x_eqS, x_neS, x_m0, x_m1, x_isStr, x_SM, x_addT, x_slS, x_lenS, x_strI, x_mulS, x_startT, x_findT, x_preT, x_lstT, x_ascT, x_digT, x_jn, x_js0, x_js1, x_isS, x_fmt, x_fmtS, x_divW, x_truK, x_truS, x_raiseT, x_asg, x_name, x_set0, x_setS, x_drop, x_cb, x_cons, x_nil, x_int1, x_abs1, x_max2, x_gcd, x_gsub, x_sl, x_part, x_nopart, x_int, x_call, x_lst, x_tup, x_not, x_and, x_or, x_andV, x_orV, x_notV, x_ifE, x_eqI, x_neI, x_eqB, x_neB, x_tbm, x_never, x_make, x_meth, x_isII, x_isIC, x_bool1, decide_eq_true_eq, Bool.false_eq_true, if_false, if_true, List.append_nil, List.nil_append, List.cons_append, x_ixT (s _ _ h1') (ai n1 j (by omega)), x_ixT (s _ _ hf) (ai nf j (by omega))]
    exact kq
  have e1 : rk.length = n1.length := by omega
  rw [e1, addv_range (by omega)] at hD1
  refine ⟨D1, _, rfl, .inl ⟨hD1, fun mo hmo => ?_⟩⟩
  have r1 : Same H4 (upd H5 mo (.tup ((addv n1 nf).map V.int))) := Same.new' s5' hmo
  have hm : ExpAt (upd H5 mo (.tup ((addv n1 nf).map V.int))) mo (addv n1 nf) := upd_same
  generalize (upd H5 mo (.tup ((addv n1 nf).map V.int))) = H6 at r1 hm ⊢
  try dsimp only
  rw [x_seq]
  simp only [x_if, x_test, x_B, x_op, x_un, x_varS, x_var0, x_c, x_I0, x_I, x_U, x_bl, x_ret, x_next, x_eqS, x_neS, x_m0, x_m1, x_isStr, x_SM, x_addT, x_slS, x_lenS, x_strI, x_mulS, x_startT, x_findT, x_preT, x_lstT, x_ascT, x_digT, x_jn, x_js0, x_js1, x_isS, x_fmt, x_fmtS, x_divW, x_truK, x_truS, x_raiseT, x_asg, x_name, x_set0, x_setS, x_drop, x_cb, x_cons, x_nil, x_int1, x_abs1, x_max2, x_gcd, x_gsub, x_sl, x_part, x_nopart, x_int, x_call, x_lst, x_tup, x_not, x_and, x_or, x_andV, x_orV, x_notV, x_ifE, x_eqI, x_neI, x_eqB, x_neB, x_tbm, x_never, x_make, x_meth, x_isII, x_isIC, x_bool1, decide_eq_true_eq, Bool.false_eq_true, if_false, if_true, List.append_nil, List.nil_append, List.cons_append]
  refine lc_pureR (n := rk.length) (fun j => V.int (n2.getD j 0 + nf.getD j 0)) (fun QA => by simp only [x_if, x_test, x_B, x_op, x_un, x_varS, x_var0, x_c, x_I0, x_I, x_U, x_bl, x_ret, x_next, x_eqS, x_neS, x_m0, x_m1, x_isStr, x_SM, x_addT, x_slS, x_lenS, x_strI, x_mulS, x_startT, x_findT, x_preT, x_lstT, x_ascT, x_digT, x_jn, x_js0, x_js1, x_isS, x_fmt, x_fmtS, x_divW, x_truK, x_truS, x_raiseT, x_asg, x_name, x_set0, x_setS, x_drop, x_cb, x_cons, x_nil, x_int1, x_abs1, x_max2, x_gcd, x_gsub, x_sl, x_part, x_nopart, x_int, x_call, x_lst, x_tup, x_not, x_and, x_or, x_andV, x_orV, x_notV, x_ifE, x_eqI, x_neI, x_eqB, x_neB, x_tbm, x_never, x_make, x_meth, x_isII, x_isIC, x_bool1, decide_eq_true_eq, Bool.false_eq_true, if_false, if_true, List.append_nil, List.nil_append, List.cons_append]) (by omega) (fun j H' QQ hj s kq => ?_) fun D2 H7 s7' hD2 => ?_
  · show tOp _ (tOp rIx1 (tVar 9) (tVar 16)) (tOp rIx1 (tVar 10) (tVar 16)) [s0, some (.ref P), some (.int rk.length), some (.str kd), some (.ref R), s5, some (.ref O), some (.ref un), some (.ref one), some (.ref two), some (.ref fac), some (.ref mo), none, none, none, none, some (.int (j : Int)), none, none, none, none] H' QQ
    simp only [x_if, x_test, x_B, x_op, x_un, x_varS, x_var0, x_c, x_I0, x_I, x_U, x_bl, x_ret, x_next, x_eqS, x_neS, x_m0, x_m1, x_isStr, x_SM, x_addT, x_slS, x_lenS, x_strI, x_mulS, x_startT, x_findT, x_preT, x_lstT, x_ascT, x_digT, x_jn, x_js0, x_js1, x_isS, x_fmt, x_fmtS, x_divW, x_truK, x_truS, x_raiseT, x_asg, x_name, x_set0, x_setS, x_drop, x_cb, x_cons, x_nil, x_int1, x_abs1, x_max2, x_gcd, x_gsub, x_sl, x_part, x_nopart, x_int, x_call, x_lst, x_tup, x_not, x_and, x_or, x_andV, x_orV, x_notV, x_ifE, x_eqI, x_neI, x_eqB, x_neB, x_tbm, x_never, x_make, x_meth, x_isII, x_isIC, x_bool1, decide_eq_true_eq, Bool.false_eq_true, if_false, if_true, List.append_nil, List.nil_append, List.cons_append, x_ixT (s _ _ (r1 _ _ h2')) (ai n2 j (by omega)), x_ixT (s _ _ (r1 _ _ hf)) (ai nf j (by omega))]
    exact kq
  have e2 : rk.length = n2.length := by omega
  rw [e2, addv_range (by omega)] at hD2
  refine ⟨D2, _, rfl, .inl ⟨hD2, fun la hla => ?_⟩⟩
  have r2 : Same H6 (upd H7 la (.tup ((addv n2 nf).map V.int))) := Same.new' s7' hla
  have r12 := r1.trans r2
  exact olaw_14 (K := K) (Z := Z) (BO := BO) (f_oplace := f_oplace) (E := E) (hp4.same r12) nR (ho'.same r12) g (r12 _ _ hR') (r12 _ _ hu') (r12 _ _ h1') (r12 _ _ h2') (r2 _ _ hm) upd_same (by omega) (by omega) (by omega) z1 z2 k
theorem pure_olaw (vs : List V) (H : Hp) (Q : VK) (E : XK) (h : spLaw K vs H Q E) : t_olaw K C Z BO f_oplace E { nx := fun _ H' => Q .non H', rt := Q } (start ["script", "pool", "dimension", "kind", "ranking", "handed", "order", "unit", "one", "two", "factor", "more", "last", "pair", "places", "before", "k", "told", "at", "wrong", "standard"] vs) H := by
  obtain ⟨a, sc, rfl, hS, hl, k⟩ := h
  show t_olaw K C Z BO f_oplace E _ [some (.ref a), none, none, none, none, none, none, none, none, none, none, none, none, none, none, none, none, none, none, none, none] H
  unfold t_olaw
  rw [x_seq]
  simp only [x_if, x_test, x_B, x_op, x_un, x_varS, x_var0, x_c, x_I0, x_I, x_U, x_bl, x_ret, x_next, x_eqS, x_neS, x_m0, x_m1, x_isStr, x_SM, x_addT, x_slS, x_lenS, x_strI, x_mulS, x_startT, x_findT, x_preT, x_lstT, x_ascT, x_digT, x_jn, x_js0, x_js1, x_isS, x_fmt, x_fmtS, x_divW, x_truK, x_truS, x_raiseT, x_asg, x_name, x_set0, x_setS, x_drop, x_cb, x_cons, x_nil, x_int1, x_abs1, x_max2, x_gcd, x_gsub, x_sl, x_part, x_nopart, x_int, x_call, x_lst, x_tup, x_not, x_and, x_or, x_andV, x_orV, x_notV, x_ifE, x_eqI, x_neI, x_eqB, x_neB, x_tbm, x_never, x_make, x_meth, x_isII, x_isIC, x_bool1, decide_eq_true_eq, Bool.false_eq_true, if_false, if_true, List.append_nil, List.nil_append, List.cons_append]
  refine ⟨a, sc, rfl, hS, hl, fun P H1 hp1 _ => ?_⟩
  try dsimp only
  rw [x_seq]
  simp only [x_if, x_test, x_B, x_op, x_un, x_varS, x_var0, x_c, x_I0, x_I, x_U, x_bl, x_ret, x_next, x_eqS, x_neS, x_m0, x_m1, x_isStr, x_SM, x_addT, x_slS, x_lenS, x_strI, x_mulS, x_startT, x_findT, x_preT, x_lstT, x_ascT, x_digT, x_jn, x_js0, x_js1, x_isS, x_fmt, x_fmtS, x_divW, x_truK, x_truS, x_raiseT, x_asg, x_name, x_set0, x_setS, x_drop, x_cb, x_cons, x_nil, x_int1, x_abs1, x_max2, x_gcd, x_gsub, x_sl, x_part, x_nopart, x_int, x_call, x_lst, x_tup, x_not, x_and, x_or, x_andV, x_orV, x_notV, x_ifE, x_eqI, x_neI, x_eqB, x_neB, x_tbm, x_never, x_make, x_meth, x_isII, x_isIC, x_bool1, decide_eq_true_eq, Bool.false_eq_true, if_false, if_true, List.append_nil, List.nil_append, List.cons_append]
  refine take_to hp1 noB (by decide) (by decide) fun r H2 hp2 k2 r0 r1 => ?_
  have r1 := r1 (by decide)
  obtain ⟨c, rfl⟩ := Int.eq_ofNat_of_zero_le r0
  simp only [x_if, x_test, x_B, x_op, x_un, x_varS, x_var0, x_c, x_I0, x_I, x_U, x_bl, x_ret, x_next, x_eqS, x_neS, x_m0, x_m1, x_isStr, x_SM, x_addT, x_slS, x_lenS, x_strI, x_mulS, x_startT, x_findT, x_preT, x_lstT, x_ascT, x_digT, x_jn, x_js0, x_js1, x_isS, x_fmt, x_fmtS, x_divW, x_truK, x_truS, x_raiseT, x_asg, x_name, x_set0, x_setS, x_drop, x_cb, x_cons, x_nil, x_int1, x_abs1, x_max2, x_gcd, x_gsub, x_sl, x_part, x_nopart, x_int, x_call, x_lst, x_tup, x_not, x_and, x_or, x_andV, x_orV, x_notV, x_ifE, x_eqI, x_neI, x_eqB, x_neB, x_tbm, x_never, x_make, x_meth, x_isII, x_isIC, x_bool1, decide_eq_true_eq, Bool.false_eq_true, if_false, if_true, List.append_nil, List.nil_append, List.cons_append]
  obtain ⟨d, hd⟩ : ∃ d : Nat, d = 1 + c := ⟨_, rfl⟩
  rw [show (1 + (c : Int)) = (d : Int) by omega]
  rw [x_seq]
  simp only [x_if, x_test, x_B, x_op, x_un, x_varS, x_var0, x_c, x_I0, x_I, x_U, x_bl, x_ret, x_next, x_eqS, x_neS, x_m0, x_m1, x_isStr, x_SM, x_addT, x_slS, x_lenS, x_strI, x_mulS, x_startT, x_findT, x_preT, x_lstT, x_ascT, x_digT, x_jn, x_js0, x_js1, x_isS, x_fmt, x_fmtS, x_divW, x_truK, x_truS, x_raiseT, x_asg, x_name, x_set0, x_setS, x_drop, x_cb, x_cons, x_nil, x_int1, x_abs1, x_max2, x_gcd, x_gsub, x_sl, x_part, x_nopart, x_int, x_call, x_lst, x_tup, x_not, x_and, x_or, x_andV, x_orV, x_notV, x_ifE, x_eqI, x_neI, x_eqB, x_neB, x_tbm, x_never, x_make, x_meth, x_isII, x_isIC, x_bool1, decide_eq_true_eq, Bool.false_eq_true, if_false, if_true, List.append_nil, List.nil_append, List.cons_append]
  refine ⟨by decide, fun q hq => ?_⟩
  have nq := lst_ne hp2 hq
  refine take_to (hp2.same (Same.new hq)) noB (by decide) (by decide) fun r' H3 hp3 k3 q0 q1 => ?_
  have q1 := q1 (by decide)
  have hq3 := k3 _ _ nq upd_same
  obtain ⟨kd, hkd, hk⟩ : ∃ kd : Str, atI [V.str "degree", V.str "variables"] r' = some (.str kd) ∧ (kd = ("degree" : Str) ∨ kd = ("variables" : Str)) := by
    obtain rfl | rfl : r' = 0 ∨ r' = 1 := by omega
    · exact ⟨_, rfl, .inl rfl⟩
    · exact ⟨_, rfl, .inr rfl⟩
  simp only [x_ix hq3 hkd]
  try dsimp only
  rw [x_seq]
  simp only [x_if, x_test, x_B, x_op, x_un, x_varS, x_var0, x_c, x_I0, x_I, x_U, x_bl, x_ret, x_next, x_eqS, x_neS, x_m0, x_m1, x_isStr, x_SM, x_addT, x_slS, x_lenS, x_strI, x_mulS, x_startT, x_findT, x_preT, x_lstT, x_ascT, x_digT, x_jn, x_js0, x_js1, x_isS, x_fmt, x_fmtS, x_divW, x_truK, x_truS, x_raiseT, x_asg, x_name, x_set0, x_setS, x_drop, x_cb, x_cons, x_nil, x_int1, x_abs1, x_max2, x_gcd, x_gsub, x_sl, x_part, x_nopart, x_int, x_call, x_lst, x_tup, x_not, x_and, x_or, x_andV, x_orV, x_notV, x_ifE, x_eqI, x_neI, x_eqB, x_neB, x_tbm, x_never, x_make, x_meth, x_isII, x_isIC, x_bool1, decide_eq_true_eq, Bool.false_eq_true, if_false, if_true, List.append_nil, List.nil_append, List.cons_append]
  refine ⟨P, d, rfl, hp3, by omega, by omega, fun R H4 rk hR nR lr perm hp4 k4 => ?_⟩
  subst lr
  have g : GoodO kd rk := ⟨hk, by omega, by omega, perm⟩
  try dsimp only
  rw [x_seq]
  simp only [x_if, x_test, x_B, x_op, x_un, x_varS, x_var0, x_c, x_I0, x_I, x_U, x_bl, x_ret, x_next, x_eqS, x_neS, x_m0, x_m1, x_isStr, x_SM, x_addT, x_slS, x_lenS, x_strI, x_mulS, x_startT, x_findT, x_preT, x_lstT, x_ascT, x_digT, x_jn, x_js0, x_js1, x_isS, x_fmt, x_fmtS, x_divW, x_truK, x_truS, x_raiseT, x_asg, x_name, x_set0, x_setS, x_drop, x_cb, x_cons, x_nil, x_int1, x_abs1, x_max2, x_gcd, x_gsub, x_sl, x_part, x_nopart, x_int, x_call, x_lst, x_tup, x_not, x_and, x_or, x_andV, x_orV, x_notV, x_ifE, x_eqI, x_neI, x_eqB, x_neB, x_tbm, x_never, x_make, x_meth, x_isII, x_isIC, x_bool1, decide_eq_true_eq, Bool.false_eq_true, if_false, if_true, List.append_nil, List.nil_append, List.cons_append]
  refine ⟨R, rk.map V.int, rfl, .inl hR, fun Hd hHd => ?_⟩
  have nHP := lst_ne hp4 hHd
  have hp5 : PoolB (fun b => NoB b ∨ b = Hd) (upd H4 Hd (.lst (rk.map V.int))) P := hp4.more hHd
  have s5 : Same H4 (upd H4 Hd (.lst (rk.map V.int))) := Same.new hHd
  have e5 : (upd H4 Hd (.lst (rk.map V.int))) Hd = some (.lst (rk.map V.int)) := upd_same
  have nRH : R ≠ Hd := fun e => by rw [← e, hR] at hHd; cases hHd
  generalize (upd H4 Hd (.lst (rk.map V.int))) = H5 at hp5 s5 e5 ⊢
  try dsimp only
  rw [x_seq]
  simp only [x_if, x_test, x_B, x_op, x_un, x_varS, x_var0, x_c, x_I0, x_I, x_U, x_bl, x_ret, x_next, x_eqS, x_neS, x_m0, x_m1, x_isStr, x_SM, x_addT, x_slS, x_lenS, x_strI, x_mulS, x_startT, x_findT, x_preT, x_lstT, x_ascT, x_digT, x_jn, x_js0, x_js1, x_isS, x_fmt, x_fmtS, x_divW, x_truK, x_truS, x_raiseT, x_asg, x_name, x_set0, x_setS, x_drop, x_cb, x_cons, x_nil, x_int1, x_abs1, x_max2, x_gcd, x_gsub, x_sl, x_part, x_nopart, x_int, x_call, x_lst, x_tup, x_not, x_and, x_or, x_andV, x_orV, x_notV, x_ifE, x_eqI, x_neI, x_eqB, x_neB, x_tbm, x_never, x_make, x_meth, x_isII, x_isIC, x_bool1, decide_eq_true_eq, Bool.false_eq_true, if_false, if_true, List.append_nil, List.nil_append, List.cons_append]
  intro x dx np nd ne
  refine order_yes (.inl e5) g np nd ne fun H6 ho s6 => ?_
  have e6 := s6 _ _ e5
  have hR6 := s6 _ _ (s5 _ _ hR)
  have hp6 := hp5.same s6
  have ax : atI (rk.map V.int) 0 = some (.int (rk.getD 0 0)) := atI_nth (z := 0) (by decide) (by omega)
  try dsimp only
  rw [x_seq]
  simp only [x_if, x_test, x_B, x_op, x_un, x_varS, x_var0, x_c, x_I0, x_I, x_U, x_bl, x_ret, x_next, x_eqS, x_neS, x_m0, x_m1, x_isStr, x_SM, x_addT, x_slS, x_lenS, x_strI, x_mulS, x_startT, x_findT, x_preT, x_lstT, x_ascT, x_digT, x_jn, x_js0, x_js1, x_isS, x_fmt, x_fmtS, x_divW, x_truK, x_truS, x_raiseT, x_asg, x_name, x_set0, x_setS, x_drop, x_cb, x_cons, x_nil, x_int1, x_abs1, x_max2, x_gcd, x_gsub, x_sl, x_part, x_nopart, x_int, x_call, x_lst, x_tup, x_not, x_and, x_or, x_andV, x_orV, x_notV, x_ifE, x_eqI, x_neI, x_eqB, x_neB, x_tbm, x_never, x_make, x_meth, x_isII, x_isIC, x_bool1, decide_eq_true_eq, Bool.false_eq_true, if_false, if_true, List.append_nil, List.nil_append, List.cons_append, x_ix e6 ax]
  have ix0 : L2.ixN (rk.map V.int).length (0 : Int) = some 0 := ixN_of (c := 0) (by rw [List.length_map]; omega)
  rw [x_setL e6 ix0]
  have hxHd : ∀ {b : Addr} {dx' : Addr} {fs : List (Str × V)}, H6 b = some (.ins C dx' fs) → b ≠ Hd := fun {b dx' fs} e z => by
    rw [z, e6] at e
    cases e
  have ord7 : ∀ {H' : Hp}, (∀ b o, b ≠ Hd → H6 b = some o → H' b = some o) → OrdAt C H' x kd rk := fun {H'} kk => by
    obtain ⟨dx', o', a1, a2⟩ := id ho
    refine ⟨dx', o', kk _ _ (hxHd a1) a1, kk _ _ (fun z => ?_) a2⟩
    rw [z, ExpAt, e6] at a2
    cases a2
  have p7 : PoolB (fun b => NoB b ∨ b = Hd) (upd H6 Hd (.lst ((rk.map V.int).set 0 (.int (2 - rk.getD 0 0))))) P := hp6.put (.inr rfl) nHP
  have e7 : (upd H6 Hd (.lst ((rk.map V.int).set 0 (.int (2 - rk.getD 0 0))))) Hd = some (.lst ((rk.map V.int).set 0 (.int (2 - rk.getD 0 0)))) := upd_same
  have k7 : ∀ b o, b ≠ Hd → H6 b = some o → (upd H6 Hd (.lst ((rk.map V.int).set 0 (.int (2 - rk.getD 0 0))))) b = some o := fun b o hb e => by rw [upd_ne hb]; exact e
  generalize (upd H6 Hd (.lst ((rk.map V.int).set 0 (.int (2 - rk.getD 0 0))))) = H7 at p7 e7 k7 ⊢
  try dsimp only
  rw [x_seq]
  simp only [x_if, x_test, x_B, x_op, x_un, x_varS, x_var0, x_c, x_I0, x_I, x_U, x_bl, x_ret, x_next, x_eqS, x_neS, x_m0, x_m1, x_isStr, x_SM, x_addT, x_slS, x_lenS, x_strI, x_mulS, x_startT, x_findT, x_preT, x_lstT, x_ascT, x_digT, x_jn, x_js0, x_js1, x_isS, x_fmt, x_fmtS, x_divW, x_truK, x_truS, x_raiseT, x_asg, x_name, x_set0, x_setS, x_drop, x_cb, x_cons, x_nil, x_int1, x_abs1, x_max2, x_gcd, x_gsub, x_sl, x_part, x_nopart, x_int, x_call, x_lst, x_tup, x_not, x_and, x_or, x_andV, x_orV, x_notV, x_ifE, x_eqI, x_neI, x_eqB, x_neB, x_tbm, x_never, x_make, x_meth, x_isII, x_isIC, x_bool1, decide_eq_true_eq, Bool.false_eq_true, if_false, if_true, List.append_nil, List.nil_append, List.cons_append]
  refine ⟨ty_lst e7, ?_⟩
  rw [x_append e7 (by rw [List.length_set, List.length_map]; exact Nat.lt_of_lt_of_le (show rk.length < 1000 by omega) (by decide))]
  have p8 : PoolB (fun b => NoB b ∨ b = Hd) (upd H7 Hd (.lst ((rk.map V.int).set 0 (.int (2 - rk.getD 0 0)) ++ [.int 0]))) P := p7.put (.inr rfl) nHP
  have k8 : ∀ b o, b ≠ Hd → H6 b = some o → (upd H7 Hd (.lst ((rk.map V.int).set 0 (.int (2 - rk.getD 0 0)) ++ [.int 0]))) b = some o := fun b o hb e => by rw [upd_ne hb]; exact k7 b o hb e
  exact olaw_8 (K := K) (Z := Z) (BO := BO) (f_oplace := f_oplace) (E := E) (p8.less fun b z => z.elim) nR (ord7 k8) g (k8 _ _ nRH hR6) k
end
end SpX

set_option Elab.async false
set_option linter.all false
set_option maxRecDepth 100000
set_option maxHeartbeats 4000000
namespace SpX
open PySem PySem.Spec L2 StX RZ
def top (i : Nat) : Stmt := PySem.Challenge.pw_spotheights_k26_orders_arrange.main.body.getD i (.Pass ⟨0, 0, 0, 0⟩)
abbrev s_pool : Stmt := top 21
theorem sc_pool : FnScope ["script", "greats", "smalls", "cell"] ["script"] (defScope s_pool) := ⟨rfl, rfl, rfl, by decide +kernel, rfl, by decide +kernel, by decide +kernel⟩
abbrev s_take : Stmt := top 22
theorem sc_take : FnScope ["pool", "most", "count", "seed", "mixed", "value", "rest"] ["pool", "most"] (defScope s_take) := ⟨rfl, rfl, rfl, by decide +kernel, rfl, by decide +kernel, by decide +kernel⟩
abbrev s_integer : Stmt := top 23
theorem sc_integer : FnScope ["thing"] ["thing"] (defScope s_integer) := ⟨rfl, rfl, rfl, by decide +kernel, rfl, by decide +kernel, by decide +kernel⟩
abbrev s_chk : Stmt := top 9
theorem sc_chk : FnScope ["dimension"] ["dimension"] (defScope s_chk) := ⟨rfl, rfl, rfl, by decide +kernel, rfl, by decide +kernel, by decide +kernel⟩
abbrev s_chke : Stmt := top 10
theorem sc_chke : FnScope ["entries", "dimension"] ["entries", "dimension"] (defScope s_chke) := ⟨rfl, rfl, rfl, by decide +kernel, rfl, by decide +kernel, by decide +kernel⟩
abbrev s_place : Stmt := top 12
theorem sc_place : FnScope ["exponents", "exponent"] ["exponents"] (defScope s_place) := ⟨rfl, rfl, rfl, by decide +kernel, rfl, by decide +kernel, by decide +kernel⟩
abbrev s_pair : Stmt := top 14
theorem sc_pair : FnScope ["first", "second"] ["first", "second"] (defScope s_pair) := ⟨rfl, rfl, rfl, by decide +kernel, rfl, by decide +kernel, by decide +kernel⟩
abbrev s_before : Stmt := top 13
theorem sc_before : FnScope ["first", "second"] ["first", "second"] (defScope s_before) := ⟨rfl, rfl, rfl, by decide +kernel, rfl, by decide +kernel, by decide +kernel⟩
abbrev s_oinit : Stmt := inClass (top 19) 0
theorem sc_oinit : FnScope ["self", "kind", "ranking", "dimension"] ["self", "kind", "ranking"] (defScope s_oinit) := ⟨rfl, rfl, rfl, by decide +kernel, rfl, by decide +kernel, by decide +kernel⟩
abbrev s_oplace : Stmt := inClass (top 19) 3
theorem sc_oplace : FnScope ["self", "exponents", "ranked", "index", "exponent"] ["self", "exponents"] (defScope s_oplace) := ⟨rfl, rfl, rfl, by decide +kernel, rfl, by decide +kernel, by decide +kernel⟩
abbrev s_oprec : Stmt := inClass (top 19) 1
theorem sc_oprec : FnScope ["self", "first", "second"] ["self", "first", "second"] (defScope s_oprec) := ⟨rfl, rfl, rfl, by decide +kernel, rfl, by decide +kernel, by decide +kernel⟩
abbrev s_oarr : Stmt := inClass (top 19) 2
theorem sc_oarr : FnScope ["self", "monomials"] ["self", "monomials"] (defScope s_oarr) := ⟨rfl, rfl, rfl, by decide +kernel, rfl, by decide +kernel, by decide +kernel⟩
abbrev s_oeq : Stmt := inClass (top 19) 4
theorem sc_oeq : FnScope ["self", "other"] ["self", "other"] (defScope s_oeq) := ⟨rfl, rfl, rfl, by decide +kernel, rfl, by decide +kernel, by decide +kernel⟩
abbrev s_omons : Stmt := top 24
theorem sc_omons : FnScope ["dimension", "high", "found", "total", "left", "first", "last"] ["dimension", "high"] (defScope s_omons) := ⟨rfl, rfl, rfl, by decide +kernel, rfl, by decide +kernel, by decide +kernel⟩
abbrev s_orank : Stmt := top 25
theorem sc_orank : FnScope ["pool", "dimension", "found", "left", "k", "at"] ["pool", "dimension"] (defScope s_orank) := ⟨rfl, rfl, rfl, by decide +kernel, rfl, by decide +kernel, by decide +kernel⟩
abbrev s_onear : Stmt := top 26
theorem sc_onear : FnScope ["pool", "before", "places", "moved", "lower", "higher"] ["pool", "before"] (defScope s_onear) := ⟨rfl, rfl, rfl, by decide +kernel, rfl, by decide +kernel, by decide +kernel⟩
abbrev s_oword : Stmt := top 27
theorem sc_oword : FnScope ["pool", "word", "letters", "way", "at", "letter"] ["pool"] (defScope s_oword) := ⟨rfl, rfl, rfl, by decide +kernel, rfl, by decide +kernel, by decide +kernel⟩
abbrev s_oearl : Stmt := top 28
theorem sc_oearl : FnScope ["kind", "ranking", "one", "two", "index"] ["kind", "ranking", "one", "two"] (defScope s_oearl) := ⟨rfl, rfl, rfl, by decide +kernel, rfl, by decide +kernel, by decide +kernel⟩
abbrev s_oasc : Stmt := top 29
theorem sc_oasc : FnScope ["kind", "ranking", "places", "found", "place", "at", "other"] ["kind", "ranking", "places"] (defScope s_oasc) := ⟨rfl, rfl, rfl, by decide +kernel, rfl, by decide +kernel, by decide +kernel⟩
abbrev s_says : Stmt := top 30
theorem sc_says : FnScope ["told", "due"] ["told", "due"] (defScope s_says) := ⟨rfl, rfl, rfl, by decide +kernel, rfl, by decide +kernel, by decide +kernel⟩
abbrev s_ois : Stmt := top 31
theorem sc_ois : FnScope ["order", "kind", "ranking", "k"] ["order", "kind", "ranking"] (defScope s_ois) := ⟨rfl, rfl, rfl, by decide +kernel, rfl, by decide +kernel, by decide +kernel⟩
abbrev s_nord : Stmt := top 32
theorem sc_nord : FnScope ["kind", "ranking", "right", "e"] ["kind", "ranking"] (defScope s_nord) := ⟨rfl, rfl, rfl, by decide +kernel, rfl, by decide +kernel, by decide +kernel⟩
abbrev s_narr : Stmt := top 33
theorem sc_narr : FnScope ["order", "places", "right", "e"] ["order", "places"] (defScope s_narr) := ⟨rfl, rfl, rfl, by decide +kernel, rfl, by decide +kernel, by decide +kernel⟩
abbrev s_nprec : Stmt := top 34
theorem sc_nprec : FnScope ["order", "one", "two", "right", "e"] ["order", "one", "two"] (defScope s_nprec) := ⟨rfl, rfl, rfl, by decide +kernel, rfl, by decide +kernel, by decide +kernel⟩
abbrev s_omade : Stmt := top 35
theorem sc_omade : FnScope ["word", "told", "good", "k"] ["word", "told"] (defScope s_omade) := ⟨rfl, rfl, rfl, by decide +kernel, rfl, by decide +kernel, by decide +kernel⟩
abbrev s_oarrs : Stmt := top 36
theorem sc_oarrs : FnScope ["order", "kind", "ranking", "places", "due", "handed", "told", "place", "again"] ["order", "kind", "ranking", "places"] (defScope s_oarrs) := ⟨rfl, rfl, rfl, by decide +kernel, rfl, by decide +kernel, by decide +kernel⟩
abbrev s_ounl : Stmt := top 37
theorem sc_ounl : FnScope ["order", "kind", "ranking", "dimension", "other"] ["order", "kind", "ranking"] (defScope s_ounl) := ⟨rfl, rfl, rfl, by decide +kernel, rfl, by decide +kernel, by decide +kernel⟩
abbrev s_olaw : Stmt := top 38
theorem sc_olaw : FnScope ["script", "pool", "dimension", "kind", "ranking", "handed", "order", "unit", "one", "two", "factor", "more", "last", "pair", "places", "before", "k", "told", "at", "wrong", "standard"] ["script"] (defScope s_olaw) := ⟨rfl, rfl, rfl, by decide +kernel, rfl, by decide +kernel, by decide +kernel⟩
structure Ad where
  C : Addr
  BO : Addr
  WD : Addr
  BT : Addr
  BI : Addr
  WC : Addr
  SE : Addr
  f_pool : Addr
  d_pool : FuncData
  f_take : Addr
  d_take : FuncData
  f_integer : Addr
  d_integer : FuncData
  f_chk : Addr
  d_chk : FuncData
  f_chke : Addr
  d_chke : FuncData
  f_place : Addr
  d_place : FuncData
  f_pair : Addr
  d_pair : FuncData
  f_before : Addr
  d_before : FuncData
  f_oinit : Addr
  d_oinit : FuncData
  f_oplace : Addr
  d_oplace : FuncData
  f_oprec : Addr
  d_oprec : FuncData
  f_oarr : Addr
  d_oarr : FuncData
  f_oeq : Addr
  d_oeq : FuncData
  f_omons : Addr
  d_omons : FuncData
  f_orank : Addr
  d_orank : FuncData
  f_onear : Addr
  d_onear : FuncData
  f_oword : Addr
  d_oword : FuncData
  f_oearl : Addr
  d_oearl : FuncData
  f_oasc : Addr
  d_oasc : FuncData
  f_says : Addr
  d_says : FuncData
  f_ois : Addr
  d_ois : FuncData
  f_nord : Addr
  d_nord : FuncData
  f_narr : Addr
  d_narr : FuncData
  f_nprec : Addr
  d_nprec : FuncData
  f_omade : Addr
  d_omade : FuncData
  f_oarrs : Addr
  d_oarrs : FuncData
  f_ounl : Addr
  d_ounl : FuncData
  f_olaw : Addr
  d_olaw : FuncData
/-- what the top has written -/
structure Txt (K : PySem.W.Frag) (mg : Str → Option Value) (a : Ad) : Prop where
  isa_Order : IsaOk K a.C
  na_kind : NoAttr K a.C "kind"
  na_ranking : NoAttr K a.C "ranking"
  na_dimension : NoAttr K a.C "dimension"
  g_Order : mg "Order" = some (.ref a.C)
  mk_Order : Mk K a.C a.f_oinit
  m_oplace : Meth K a.C "_place" a.f_oplace
  m_oprec : Meth K a.C "precedes" a.f_oprec
  m_oarr : Meth K a.C "arranged" a.f_oarr
  bm_oplace : BMeth K a.C "_place" a.f_oplace
  o_eq : OwnEqF K a.C a.f_oeq
  exBO : ExcO K a.BO [a.SE] [a.BT, a.WD, a.BI]
  exWD : ExcO K a.WD [a.SE] [a.BO, a.WC]
  xBO : PySem.W.excIn K a.BO [.type "ValueError", .type "Exception", .type "BaseException", .type "object"] "ValueError.__new__" = true
  kBO : PySem.W.keepIn K (.ref a.BO) = true
  bBO : PySem.W.subIn K (.ref a.BO) (.type "BaseException") = some true
  tBO : PySem.W.typeIn K (.ref a.BO) = some (.type "type")
  gBO : mg "BadOrder" = some (.ref a.BO)
  xWD : PySem.W.excIn K a.WD [.type "ValueError", .type "Exception", .type "BaseException", .type "object"] "ValueError.__new__" = true
  kWD : PySem.W.keepIn K (.ref a.WD) = true
  bWD : PySem.W.subIn K (.ref a.WD) (.type "BaseException") = some true
  tWD : PySem.W.typeIn K (.ref a.WD) = some (.type "type")
  gWD : mg "WrongDimension" = some (.ref a.WD)
  c_DIMENSIONS : ∃ u, mg "DIMENSIONS" = some u ∧ RelV (.int 3) u
  c_BY_DEGREE : ∃ u, mg "BY_DEGREE" = some u ∧ RelV (.str "degree") u
  c_BY_VARIABLES : ∃ u, mg "BY_VARIABLES" = some u ∧ RelV (.str "variables") u
  g_BadOrder : mg "BadOrder" = some (.ref a.BO)
  g_WrongDimension : mg "WrongDimension" = some (.ref a.WD)
  g_BadText : mg "BadText" = some (.ref a.BT)
  g_BadIndex : mg "BadIndex" = some (.ref a.BI)
  g_WrongCount : mg "WrongCount" = some (.ref a.WC)
  g_SpotError : mg "SpotError" = some (.ref a.SE)
  n_len : mg "len" = none
  n_abs : mg "abs" = none
  n_int : mg "int" = none
  n_list : mg "list" = none
  n_bool : mg "bool" = none
  n_isinstance : mg "isinstance" = none
  n_range : mg "range" = none
  n_ValueError : mg "ValueError" = none
  n_str : mg "str" = none
  n_tuple : mg "tuple" = none
  n_sum : mg "sum" = none
  n_sorted : mg "sorted" = none
  F_pool : Fun K "_law_pool" "_law_pool" s_pool a.f_pool a.d_pool
  b_pool : Binds K a.d_pool ["script"] []
  g_pool : mg "_law_pool" = some (.ref a.f_pool)
  k_pool : PySem.W.keepIn K (.ref a.f_pool) = true
  F_take : Fun K "_law_take" "_law_take" s_take a.f_take a.d_take
  b_take : Binds K a.d_take ["pool", "most"] []
  g_take : mg "_law_take" = some (.ref a.f_take)
  k_take : PySem.W.keepIn K (.ref a.f_take) = true
  F_integer : Fun K "_law_integer" "_law_integer" s_integer a.f_integer a.d_integer
  b_integer : Binds K a.d_integer ["thing"] []
  g_integer : mg "_law_integer" = some (.ref a.f_integer)
  k_integer : PySem.W.keepIn K (.ref a.f_integer) = true
  F_chk : Fun K "check_dimension" "check_dimension" s_chk a.f_chk a.d_chk
  b_chk : Binds K a.d_chk ["dimension"] []
  g_chk : mg "check_dimension" = some (.ref a.f_chk)
  k_chk : PySem.W.keepIn K (.ref a.f_chk) = true
  F_chke : Fun K "check_entries" "check_entries" s_chke a.f_chke a.d_chke
  b_chke : Binds K a.d_chke ["entries", "dimension"] []
  g_chke : mg "check_entries" = some (.ref a.f_chke)
  k_chke : PySem.W.keepIn K (.ref a.f_chke) = true
  F_place : Fun K "standard_place" "standard_place" s_place a.f_place a.d_place
  b_place : Binds K a.d_place ["exponents"] []
  g_place : mg "standard_place" = some (.ref a.f_place)
  k_place : PySem.W.keepIn K (.ref a.f_place) = true
  F_pair : Fun K "_check_pair" "_check_pair" s_pair a.f_pair a.d_pair
  b_pair : Binds K a.d_pair ["first", "second"] []
  g_pair : mg "_check_pair" = some (.ref a.f_pair)
  k_pair : PySem.W.keepIn K (.ref a.f_pair) = true
  F_before : Fun K "comes_before" "comes_before" s_before a.f_before a.d_before
  b_before : Binds K a.d_before ["first", "second"] []
  g_before : mg "comes_before" = some (.ref a.f_before)
  k_before : PySem.W.keepIn K (.ref a.f_before) = true
  F_oinit : Fun K "__init__" "Order.__init__" s_oinit a.f_oinit a.d_oinit
  b_oinit : Binds K a.d_oinit ["self", "kind", "ranking"] []
  F_oplace : Fun K "_place" "Order._place" s_oplace a.f_oplace a.d_oplace
  b_oplace : Binds K a.d_oplace ["self", "exponents"] []
  F_oprec : Fun K "precedes" "Order.precedes" s_oprec a.f_oprec a.d_oprec
  b_oprec : Binds K a.d_oprec ["self", "first", "second"] []
  F_oarr : Fun K "arranged" "Order.arranged" s_oarr a.f_oarr a.d_oarr
  b_oarr : Binds K a.d_oarr ["self", "monomials"] []
  F_oeq : Fun K "__eq__" "Order.__eq__" s_oeq a.f_oeq a.d_oeq
  b_oeq : Binds K a.d_oeq ["self", "other"] []
  F_omons : Fun K "_law_monomials" "_law_monomials" s_omons a.f_omons a.d_omons
  b_omons : Binds K a.d_omons ["dimension", "high"] []
  g_omons : mg "_law_monomials" = some (.ref a.f_omons)
  k_omons : PySem.W.keepIn K (.ref a.f_omons) = true
  F_orank : Fun K "_law_ranking" "_law_ranking" s_orank a.f_orank a.d_orank
  b_orank : Binds K a.d_orank ["pool", "dimension"] []
  g_orank : mg "_law_ranking" = some (.ref a.f_orank)
  k_orank : PySem.W.keepIn K (.ref a.f_orank) = true
  F_onear : Fun K "_law_near" "_law_near" s_onear a.f_onear a.d_onear
  b_onear : Binds K a.d_onear ["pool", "before"] []
  g_onear : mg "_law_near" = some (.ref a.f_onear)
  k_onear : PySem.W.keepIn K (.ref a.f_onear) = true
  F_oword : Fun K "_law_word" "_law_word" s_oword a.f_oword a.d_oword
  b_oword : Binds K a.d_oword ["pool"] []
  g_oword : mg "_law_word" = some (.ref a.f_oword)
  k_oword : PySem.W.keepIn K (.ref a.f_oword) = true
  F_oearl : Fun K "_law_earlier" "_law_earlier" s_oearl a.f_oearl a.d_oearl
  b_oearl : Binds K a.d_oearl ["kind", "ranking", "one", "two"] []
  g_oearl : mg "_law_earlier" = some (.ref a.f_oearl)
  k_oearl : PySem.W.keepIn K (.ref a.f_oearl) = true
  F_oasc : Fun K "_law_ascending" "_law_ascending" s_oasc a.f_oasc a.d_oasc
  b_oasc : Binds K a.d_oasc ["kind", "ranking", "places"] []
  g_oasc : mg "_law_ascending" = some (.ref a.f_oasc)
  k_oasc : PySem.W.keepIn K (.ref a.f_oasc) = true
  F_says : Fun K "_law_says" "_law_says" s_says a.f_says a.d_says
  b_says : Binds K a.d_says ["told", "due"] []
  g_says : mg "_law_says" = some (.ref a.f_says)
  k_says : PySem.W.keepIn K (.ref a.f_says) = true
  F_ois : Fun K "_law_is" "_law_is" s_ois a.f_ois a.d_ois
  b_ois : Binds K a.d_ois ["order", "kind", "ranking"] []
  g_ois : mg "_law_is" = some (.ref a.f_ois)
  k_ois : PySem.W.keepIn K (.ref a.f_ois) = true
  F_nord : Fun K "_law_no_order" "_law_no_order" s_nord a.f_nord a.d_nord
  b_nord : Binds K a.d_nord ["kind", "ranking"] []
  g_nord : mg "_law_no_order" = some (.ref a.f_nord)
  k_nord : PySem.W.keepIn K (.ref a.f_nord) = true
  F_narr : Fun K "_law_no_arranging" "_law_no_arranging" s_narr a.f_narr a.d_narr
  b_narr : Binds K a.d_narr ["order", "places"] []
  g_narr : mg "_law_no_arranging" = some (.ref a.f_narr)
  k_narr : PySem.W.keepIn K (.ref a.f_narr) = true
  F_nprec : Fun K "_law_no_preceding" "_law_no_preceding" s_nprec a.f_nprec a.d_nprec
  b_nprec : Binds K a.d_nprec ["order", "one", "two"] []
  g_nprec : mg "_law_no_preceding" = some (.ref a.f_nprec)
  k_nprec : PySem.W.keepIn K (.ref a.f_nprec) = true
  F_omade : Fun K "_law_made" "_law_made" s_omade a.f_omade a.d_omade
  b_omade : Binds K a.d_omade ["word", "told"] []
  g_omade : mg "_law_made" = some (.ref a.f_omade)
  k_omade : PySem.W.keepIn K (.ref a.f_omade) = true
  F_oarrs : Fun K "_law_arranges" "_law_arranges" s_oarrs a.f_oarrs a.d_oarrs
  b_oarrs : Binds K a.d_oarrs ["order", "kind", "ranking", "places"] []
  g_oarrs : mg "_law_arranges" = some (.ref a.f_oarrs)
  k_oarrs : PySem.W.keepIn K (.ref a.f_oarrs) = true
  F_ounl : Fun K "_law_unlike" "_law_unlike" s_ounl a.f_ounl a.d_ounl
  b_ounl : Binds K a.d_ounl ["order", "kind", "ranking"] []
  g_ounl : mg "_law_unlike" = some (.ref a.f_ounl)
  k_ounl : PySem.W.keepIn K (.ref a.f_ounl) = true
  F_olaw : Fun K "law" "law" s_olaw a.f_olaw a.d_olaw
  b_olaw : Binds K a.d_olaw ["script"] []
  g_olaw : mg "law" = some (.ref a.f_olaw)
  k_olaw : PySem.W.keepIn K (.ref a.f_olaw) = true
section
variable {P : Program} {w : World} {K : PySem.W.Frag} {mg : Str → Option Value} {base : Heap} {a : Ad}
theorem ok_pool (T : Txt K mg a) : FnOk P w K mg base CX0 1 a.f_pool a.d_pool ["script"] (spPoolB K) := by
  refine T.F_pool.ok sc_pool (fun vs H Q E h => by first | (obtain ⟨rfl, _⟩ := h; rfl) | (obtain ⟨_, rfl, _⟩ := h; rfl) | (obtain ⟨_, _, rfl, _⟩ := h; rfl) | (obtain ⟨_, _, _, rfl, _⟩ := h; rfl) | (obtain ⟨_, _, _, _, rfl, _⟩ := h; rfl) | (obtain ⟨_, _, _, _, _, rfl, _⟩ := h; rfl) | (obtain ⟨_, _, _, _, _, _, rfl, _⟩ := h; rfl) | (obtain ⟨_, _, _, _, _, _, _, rfl, _⟩ := h; rfl) | (obtain ⟨_, _, _, _, _, _, _, _, rfl, _⟩ := h; rfl) | (obtain ⟨_, _, _, _, _, _, _, _, _, rfl, _⟩ := h; rfl)) (fun cdv A outer s H vs Q E hr h => ⟨t_pool K, ?_, pure_poolB vs H Q E h⟩)
  exact (pss_cons (ps_set (i := 1) sc_pool.nd rfl (.inl rfl) (pe_lst pa_nil))
      (pss_cons (ps_set (i := 2) sc_pool.nd rfl (.inl rfl) (pe_lst pa_nil))
      (pss_cons (ps_for PassesOwn.never rfl (pi_list (pv 0)) (pg_name (i := 3) sc_pool.nd rfl (.inl rfl)) (pss_one (ps_if (pt_cmpR op_ge (pe_callB call_abs (by rfl) T.n_abs (by decide +kernel) (pa_cons (pe_callTy call_int1 (by rfl) T.n_int (by decide +kernel) (pa_cons (pv 3) pa_nil)) pa_nil)) (pe_op op_pow pe_int pe_int) (nomark _)) (pss_one (ps_expr (pe_bm PySem.F.plainAttrs_list PySem.F.slot_list_append PySem.F.type_list_append mt_append (pv 1) (pa_cons (pe_callB call_abs (by rfl) T.n_abs (by decide +kernel) (pa_cons (pe_callTy call_int1 (by rfl) T.n_int (by decide +kernel) (pa_cons (pv 3) pa_nil)) pa_nil)) pa_nil)))) (pss_one (ps_expr (pe_bm PySem.F.plainAttrs_list PySem.F.slot_list_append PySem.F.type_list_append mt_append (pv 2) (pa_cons (pe_callB call_abs (by rfl) T.n_abs (by decide +kernel) (pa_cons (pe_callTy call_int1 (by rfl) T.n_int (by decide +kernel) (pa_cons (pv 3) pa_nil)) pa_nil)) pa_nil)))))))
      (pss_cons (ps_if (pt_cmpR op_eq (pe_callB call_lenA (by rfl) T.n_len boot_len (pa_cons (pv 2) pa_nil)) pe_int (nomark _)) (pss_one (ps_expr (pe_bm PySem.F.plainAttrs_list PySem.F.slot_list_append PySem.F.type_list_append mt_append (pv 2) (pa_cons (pe_callB call_lenA (by rfl) T.n_len boot_len (pa_cons (pv 1) pa_nil)) pa_nil)))) pss_nil)
      (pss_one (ps_ret (pe_lst (pa_cons (pv 1) (pa_cons (pv 2) (pa_cons pe_int pa_nil))))))))))
theorem ok_take (T : Txt K mg a) : FnOk P w K mg base CX0 1 a.f_take a.d_take ["pool", "most"] spTakeB := by
  refine T.F_take.ok sc_take (fun vs H Q E h => by first | (obtain ⟨rfl, _⟩ := h; rfl) | (obtain ⟨_, rfl, _⟩ := h; rfl) | (obtain ⟨_, _, rfl, _⟩ := h; rfl) | (obtain ⟨_, _, _, rfl, _⟩ := h; rfl) | (obtain ⟨_, _, _, _, rfl, _⟩ := h; rfl) | (obtain ⟨_, _, _, _, _, rfl, _⟩ := h; rfl) | (obtain ⟨_, _, _, _, _, _, rfl, _⟩ := h; rfl) | (obtain ⟨_, _, _, _, _, _, _, rfl, _⟩ := h; rfl) | (obtain ⟨_, _, _, _, _, _, _, _, rfl, _⟩ := h; rfl) | (obtain ⟨_, _, _, _, _, _, _, _, _, rfl, _⟩ := h; rfl)) (fun cdv A outer s H vs Q E hr h => ⟨t_take K, ?_, pure_takeB vs H Q E h⟩)
  exact (pss_cons (ps_if (pt_cmpR op_lt (pv 1) pe_int (nomark _)) (pss_one (ps_ret pe_int)) pss_nil)
      (pss_cons (ps_if (pt_cmpR op_gt (pe_callB call_lenA (by rfl) T.n_len boot_len (pa_cons (pe_ix ix_1 (pv 0) pe_int (fun _ _ => rfl)) pa_nil)) pe_int (nomark _)) (pss_cons (ps_set (i := 5) sc_take.nd rfl (.inl rfl) (pe_ix ix_1 (pe_ix ix_1 (pv 0) pe_int (fun _ _ => rfl)) pe_int (fun _ _ => rfl)))
      (pss_cons (ps_set (i := 6) sc_take.nd rfl (.inl rfl) (pe_callTy call_listA (by rfl) T.n_list (by decide +kernel) (pa_cons (pe_slice sl_A (pe_ix ix_1 (pv 0) pe_int (fun _ _ => rfl)) (po_some pe_int) po_none) pa_nil)))
      (pss_cons (ps_if (pt_cmpR op_gt (pe_op op_fdivF (pv 5) (pv 1)) pe_int (nomark _)) (pss_one (ps_set (i := 6) sc_take.nd rfl (.inl rfl) (pe_op op_cat (pe_lst (pa_cons (pe_op op_fdivF (pv 5) (pv 1)) pa_nil)) (pv 6)))) pss_nil)
      (pss_cons (ps_asg (pv 6) (pg_sub (pv 0) pe_int set_list))
      (pss_one (ps_ret (pe_op op_mod (pe_callTy call_int1 (by rfl) T.n_int (by decide +kernel) (pa_cons (pv 5) pa_nil)) (pv 1)))))))) pss_nil)
      (pss_cons (ps_set (i := 2) sc_take.nd rfl (.inl rfl) (pe_ix ix_1 (pv 0) pe_int (fun _ _ => rfl)))
      (pss_cons (ps_asg (pe_op op_add (pv 2) pe_int) (pg_sub (pv 0) pe_int set_list))
      (pss_cons (ps_set (i := 3) sc_take.nd rfl (.inl rfl) (pe_ix ix_1 (pe_ix ix_1 (pv 0) pe_int (fun _ _ => rfl)) (pe_op op_mod (pe_callTy call_int1 (by rfl) T.n_int (by decide +kernel) (pa_cons (pe_op op_fdivF (pv 2) pe_int) pa_nil)) (pe_callB call_lenA (by rfl) T.n_len boot_len (pa_cons (pe_ix ix_1 (pv 0) pe_int (fun _ _ => rfl)) pa_nil))) (fun _ _ => rfl)))
      (pss_cons (ps_set (i := 4) sc_take.nd rfl (.inl rfl) (pe_op op_mod (pe_callTy call_int1 (by rfl) T.n_int (by decide +kernel) (pa_cons (pe_op op_add (pe_op op_add (pe_op op_mulI (pv 3) pe_int) (pe_op op_mulI (pv 2) pe_int)) pe_int) pa_nil)) pe_int))
      (pss_cons (ps_set (i := 4) sc_take.nd rfl (.inl rfl) (pe_op op_mod (pe_callTy call_int1 (by rfl) T.n_int (by decide +kernel) (pa_cons (pe_op op_add (pe_op op_add (pe_op op_mulI (pv 4) (pv 4)) (pe_op op_mulI (pv 2) pe_int)) pe_int) pa_nil)) pe_int))
      (pss_cons (ps_set (i := 4) sc_take.nd rfl (.inl rfl) (pe_op op_mod (pe_callTy call_int1 (by rfl) T.n_int (by decide +kernel) (pa_cons (pe_op op_add (pe_op op_add (pe_op op_mulI (pv 4) (pv 4)) (pv 3)) pe_int) pa_nil)) pe_int))
      (pss_one (ps_ret (pe_op op_mod (pe_callTy call_int1 (by rfl) T.n_int (by decide +kernel) (pa_cons (pe_op op_fdivF (pv 4) pe_int) pa_nil)) (pv 1))))))))))))
theorem ok_integer (T : Txt K mg a) : FnOk P w K mg base CX0 1 a.f_integer a.d_integer ["thing"] spInteger := by
  refine T.F_integer.ok sc_integer (fun vs H Q E h => by first | (obtain ⟨rfl, _⟩ := h; rfl) | (obtain ⟨_, rfl, _⟩ := h; rfl) | (obtain ⟨_, _, rfl, _⟩ := h; rfl) | (obtain ⟨_, _, _, rfl, _⟩ := h; rfl) | (obtain ⟨_, _, _, _, rfl, _⟩ := h; rfl) | (obtain ⟨_, _, _, _, _, rfl, _⟩ := h; rfl) | (obtain ⟨_, _, _, _, _, _, rfl, _⟩ := h; rfl) | (obtain ⟨_, _, _, _, _, _, _, rfl, _⟩ := h; rfl) | (obtain ⟨_, _, _, _, _, _, _, _, rfl, _⟩ := h; rfl) | (obtain ⟨_, _, _, _, _, _, _, _, _, rfl, _⟩ := h; rfl)) (fun cdv A outer s H vs Q E hr h => ⟨t_integer K, ?_, pure_integer vs H Q E h⟩)
  exact (pss_one (ps_ret (pe_and (pe_callB call_isi (by rfl) T.n_isinstance (by decide +kernel) (pa_cons (pv 0) (pa_cons (pe_bltn (by rfl) T.n_int (by decide +kernel) rfl) pa_nil))) (pe_one (pe_not (pe_callB call_isi (by rfl) T.n_isinstance (by decide +kernel) (pa_cons (pv 0) (pa_cons (pe_bltn (by rfl) T.n_bool (by decide +kernel) rfl) pa_nil))))))))
theorem ok_chk (T : Txt K mg a) : FnOk P w K mg base (L2.CX P w) 1 a.f_chk a.d_chk ["dimension"] (spChk a.WD) := by
  refine T.F_chk.okX sc_chk (fun vs H Q E h => by first | (obtain ⟨rfl, _⟩ := h; rfl) | (obtain ⟨_, rfl, _⟩ := h; rfl) | (obtain ⟨_, _, rfl, _⟩ := h; rfl) | (obtain ⟨_, _, _, rfl, _⟩ := h; rfl) | (obtain ⟨_, _, _, _, rfl, _⟩ := h; rfl) | (obtain ⟨_, _, _, _, _, rfl, _⟩ := h; rfl) | (obtain ⟨_, _, _, _, _, _, rfl, _⟩ := h; rfl) | (obtain ⟨_, _, _, _, _, _, _, rfl, _⟩ := h; rfl) | (obtain ⟨_, _, _, _, _, _, _, _, rfl, _⟩ := h; rfl) | (obtain ⟨_, _, _, _, _, _, _, _, _, rfl, _⟩ := h; rfl)) (fun cdv A outer s H vs Q E hr h => ⟨t_chk K a.WD E, ?_, pure_chk vs H Q E h⟩)
  exact (pss_one (ps_if (PW.pt (pw_or (pt_cmpR op_lt (pv 0) pe_int (nomark _)) (pw_or1 (pt_cmpR op_gt (pv 0) (pe_gc rfl T.c_DIMENSIONS) (nomark _))))) (pss_one (ps_raise (W := fun cls d _ H => E cls d H) (t := fun _ H Q => Q (.ref a.WD) none H) rfl (takes_of rfl rfl rfl rfl) (pmk_own PySem.F.excBase_ValueError T.xWD T.gWD T.kWD (raises_own T.bWD T.tWD) rfl))) pss_nil))
theorem ok_chke (T : Txt K mg a) : FnOk P w K mg base (L2.CX P w) 1 a.f_chke a.d_chke ["entries", "dimension"] (spChke a.WD) := by
  refine T.F_chke.okX sc_chke (fun vs H Q E h => by first | (obtain ⟨rfl, _⟩ := h; rfl) | (obtain ⟨_, rfl, _⟩ := h; rfl) | (obtain ⟨_, _, rfl, _⟩ := h; rfl) | (obtain ⟨_, _, _, rfl, _⟩ := h; rfl) | (obtain ⟨_, _, _, _, rfl, _⟩ := h; rfl) | (obtain ⟨_, _, _, _, _, rfl, _⟩ := h; rfl) | (obtain ⟨_, _, _, _, _, _, rfl, _⟩ := h; rfl) | (obtain ⟨_, _, _, _, _, _, _, rfl, _⟩ := h; rfl) | (obtain ⟨_, _, _, _, _, _, _, _, rfl, _⟩ := h; rfl) | (obtain ⟨_, _, _, _, _, _, _, _, _, rfl, _⟩ := h; rfl)) (fun cdv A outer s H vs Q E hr h => ⟨t_chke K a.WD E, ?_, pure_chke vs H Q E h⟩)
  exact (pss_one (ps_if (pt_cmpR op_ne (pe_callB call_lenA (by rfl) T.n_len boot_len (pa_cons (pv 0) pa_nil)) (pv 1) (nomark _)) (pss_one (ps_raise (W := fun cls d _ H => E cls d H) (t := fun _ H Q => Q (.ref a.WD) none H) rfl (takes_of rfl rfl rfl rfl) (pmk_own PySem.F.excBase_ValueError T.xWD T.gWD T.kWD (raises_own T.bWD T.tWD) rfl))) pss_nil))
theorem ok_place (T : Txt K mg a) : FnOk P w K mg base CX0 1 a.f_place a.d_place ["exponents"] spPlace := by
  refine T.F_place.ok sc_place (fun vs H Q E h => by first | (obtain ⟨rfl, _⟩ := h; rfl) | (obtain ⟨_, rfl, _⟩ := h; rfl) | (obtain ⟨_, _, rfl, _⟩ := h; rfl) | (obtain ⟨_, _, _, rfl, _⟩ := h; rfl) | (obtain ⟨_, _, _, _, rfl, _⟩ := h; rfl) | (obtain ⟨_, _, _, _, _, rfl, _⟩ := h; rfl) | (obtain ⟨_, _, _, _, _, _, rfl, _⟩ := h; rfl) | (obtain ⟨_, _, _, _, _, _, _, rfl, _⟩ := h; rfl) | (obtain ⟨_, _, _, _, _, _, _, _, rfl, _⟩ := h; rfl) | (obtain ⟨_, _, _, _, _, _, _, _, _, rfl, _⟩ := h; rfl)) (fun cdv A outer s H vs Q E hr h => ⟨t_place K a.WD E, ?_, pure_place vs H Q E h⟩)
  exact (pss_one (ps_ret (pe_tup (pa_cons (pe_callB (call_sumA rfl) (by rfl) T.n_sum (by decide +kernel) (pa_cons (pv 0) pa_nil)) (pa_star (pe_lc (own := [("exponent", 1)]) (g := (gName 1)) (tt := tYes) (by rfl) sc_place.nd (pi_tup (pv 0)) (blkOk_by (own := [("exponent", 1)]) (N := ["exponents", "exponent"]) (sc := defScope s_place) (by decide +kernel)) (fun _ _ _ _ _ => (pg_name (i := 1) sc_place.nd rfl (.inl rfl))) (fun _ _ _ _ _ => pts_nil) (fun _ _ _ _ _ => (pe_un un_neg (pv 1)))) pa_nil)))))
theorem ok_pair (T : Txt K mg a) : FnOk P w K mg base (L2.CX P w) 2 a.f_pair a.d_pair ["first", "second"] (spPair a.WD) := by
  have G_chk := ok_chk (P := P) (w := w) (base := base) T
  have G_chke := ok_chke (P := P) (w := w) (base := base) T
  refine T.F_pair.okX sc_pair (fun vs H Q E h => by first | (obtain ⟨rfl, _⟩ := h; rfl) | (obtain ⟨_, rfl, _⟩ := h; rfl) | (obtain ⟨_, _, rfl, _⟩ := h; rfl) | (obtain ⟨_, _, _, rfl, _⟩ := h; rfl) | (obtain ⟨_, _, _, _, rfl, _⟩ := h; rfl) | (obtain ⟨_, _, _, _, _, rfl, _⟩ := h; rfl) | (obtain ⟨_, _, _, _, _, _, rfl, _⟩ := h; rfl) | (obtain ⟨_, _, _, _, _, _, _, rfl, _⟩ := h; rfl) | (obtain ⟨_, _, _, _, _, _, _, _, rfl, _⟩ := h; rfl) | (obtain ⟨_, _, _, _, _, _, _, _, _, rfl, _⟩ := h; rfl)) (fun cdv A outer s H vs Q E hr h => ⟨t_pair K a.WD E, ?_, pure_pair vs H Q E h⟩)
  exact (pss_cons (ps_expr (pe_call G_chk (hr.mono (by decide)) rfl T.g_chk T.k_chk T.b_chk .nil (passes_call (takes_of rfl rfl rfl rfl) (fun _ _ _ _ h => h)) (pa_cons (pe_callB call_lenA (by rfl) T.n_len boot_len (pa_cons (pv 0) pa_nil)) pa_nil)))
      (pss_one (ps_expr (pe_call G_chke (hr.mono (by decide)) rfl T.g_chke T.k_chke T.b_chke .nil (passes_call (takes_of rfl rfl rfl rfl) (fun _ _ _ _ h => h)) (pa_cons (pv 1) (pa_cons (pe_callB call_lenA (by rfl) T.n_len boot_len (pa_cons (pv 0) pa_nil)) pa_nil))))))
theorem ok_before (T : Txt K mg a) : FnOk P w K mg base (L2.CX P w) 3 a.f_before a.d_before ["first", "second"] (spBefore a.WD) := by
  have G_pair := ok_pair (P := P) (w := w) (base := base) T
  have G_place := ok_place (P := P) (w := w) (base := base) T
  refine T.F_before.okX sc_before (fun vs H Q E h => by first | (obtain ⟨rfl, _⟩ := h; rfl) | (obtain ⟨_, rfl, _⟩ := h; rfl) | (obtain ⟨_, _, rfl, _⟩ := h; rfl) | (obtain ⟨_, _, _, rfl, _⟩ := h; rfl) | (obtain ⟨_, _, _, _, rfl, _⟩ := h; rfl) | (obtain ⟨_, _, _, _, _, rfl, _⟩ := h; rfl) | (obtain ⟨_, _, _, _, _, _, rfl, _⟩ := h; rfl) | (obtain ⟨_, _, _, _, _, _, _, rfl, _⟩ := h; rfl) | (obtain ⟨_, _, _, _, _, _, _, _, rfl, _⟩ := h; rfl) | (obtain ⟨_, _, _, _, _, _, _, _, _, rfl, _⟩ := h; rfl)) (fun cdv A outer s H vs Q E hr h => ⟨t_before K a.WD E, ?_, pure_before vs H Q E h⟩)
  exact (pss_cons (ps_expr (pe_call G_pair (hr.mono (by decide)) rfl T.g_pair T.k_pair T.b_pair .nil (passes_call (takes_of rfl rfl rfl rfl) (fun _ _ _ _ h => h)) (pa_cons (pv 0) (pa_cons (pv 1) pa_nil))))
      (pss_one (ps_ret (pe_cmpR (op_ltA hr.units0) (pe_call G_place (hr.mono (by decide)) rfl T.g_place T.k_place T.b_place .nil pass0 (pa_cons (pv 0) pa_nil)) (pe_call G_place (hr.mono (by decide)) rfl T.g_place T.k_place T.b_place .nil pass0 (pa_cons (pv 1) pa_nil)) (nomark _)))))
theorem ok_oinit (T : Txt K mg a) : FnOk P w K mg base (L2.CX P w) 1 a.f_oinit a.d_oinit ["self", "kind", "ranking"] (spOrder a.C a.BO) := by
  refine T.F_oinit.okX sc_oinit (fun vs H Q E h => by first | (obtain ⟨rfl, _⟩ := h; rfl) | (obtain ⟨_, rfl, _⟩ := h; rfl) | (obtain ⟨_, _, rfl, _⟩ := h; rfl) | (obtain ⟨_, _, _, rfl, _⟩ := h; rfl) | (obtain ⟨_, _, _, _, rfl, _⟩ := h; rfl) | (obtain ⟨_, _, _, _, _, rfl, _⟩ := h; rfl) | (obtain ⟨_, _, _, _, _, _, rfl, _⟩ := h; rfl) | (obtain ⟨_, _, _, _, _, _, _, rfl, _⟩ := h; rfl) | (obtain ⟨_, _, _, _, _, _, _, _, rfl, _⟩ := h; rfl) | (obtain ⟨_, _, _, _, _, _, _, _, _, rfl, _⟩ := h; rfl)) (fun cdv A outer s H vs Q E hr h => ⟨t_oinit K a.C a.WD a.BO a.f_oplace E, ?_, pure_oinit ⟨T.isa_Order.cl, T.na_kind, T.na_ranking, T.na_dimension⟩ vs H Q E h⟩)
  exact (pss_cons (ps_if (PW.pt (pw_and (pt_cmpR op_ne (pv 1) (pe_gc rfl T.c_BY_DEGREE) (nomark _)) (pw_and1 (pt_cmpR op_ne (pv 1) (pe_gc rfl T.c_BY_VARIABLES) (nomark _))))) (pss_one (ps_raise (W := fun cls d _ H => E cls d H) (t := fun _ H Q => Q (.ref a.BO) none H) rfl (takes_of rfl rfl rfl rfl) (pmk_own PySem.F.excBase_ValueError T.xBO T.gBO T.kBO (raises_own T.bBO T.tBO) rfl))) pss_nil)
      (pss_cons (ps_set (i := 3) sc_oinit.nd rfl (.inl rfl) (pe_callB call_lenA (by rfl) T.n_len boot_len (pa_cons (pv 2) pa_nil)))
      (pss_cons (ps_if (PW.pt (pw_or (pt_cmpR op_lt (pv 3) pe_int (nomark _)) (pw_or (pt_cmpR op_gt (pv 3) (pe_gc rfl T.c_DIMENSIONS) (nomark _)) (pw_or1 (pt_cmpR (op_neP hr.units) (pe_callB cr_sortedI (by rfl) T.n_sorted (by decide +kernel) (pa_cons (pe_callTy call_listA (by rfl) T.n_list (by decide +kernel) (pa_cons (pv 2) pa_nil)) pa_nil)) (pe_callTy (call_listR rfl) (by rfl) T.n_list (by decide +kernel) (pa_cons (pe_callTy cr_rangeV (by rfl) T.n_range (by decide +kernel) (pa_cons (pv 3) pa_nil)) pa_nil)) (nomark _)))))) (pss_one (ps_raise (W := fun cls d _ H => E cls d H) (t := fun _ H Q => Q (.ref a.BO) none H) rfl (takes_of rfl rfl rfl rfl) (pmk_own PySem.F.excBase_ValueError T.xBO T.gBO T.kBO (raises_own T.bBO T.tBO) rfl))) pss_nil)
      (pss_cons (ps_fld (pv 0) (pv 1) rfl)
      (pss_cons (ps_fld (pv 0) (pe_callTy call_tupA (by rfl) T.n_tuple (by decide +kernel) (pa_cons (pv 2) pa_nil)) rfl)
      (pss_one (ps_fld (pv 0) (pv 3) rfl)))))))
theorem ok_oplace (T : Txt K mg a) : FnOk P w K mg base (L2.CX P w) 2 a.f_oplace a.d_oplace ["self", "exponents"] (spOPlace a.C a.WD) := by
  have G_chke := ok_chke (P := P) (w := w) (base := base) T
  refine T.F_oplace.okX sc_oplace (fun vs H Q E h => by first | (obtain ⟨rfl, _⟩ := h; rfl) | (obtain ⟨_, rfl, _⟩ := h; rfl) | (obtain ⟨_, _, rfl, _⟩ := h; rfl) | (obtain ⟨_, _, _, rfl, _⟩ := h; rfl) | (obtain ⟨_, _, _, _, rfl, _⟩ := h; rfl) | (obtain ⟨_, _, _, _, _, rfl, _⟩ := h; rfl) | (obtain ⟨_, _, _, _, _, _, rfl, _⟩ := h; rfl) | (obtain ⟨_, _, _, _, _, _, _, rfl, _⟩ := h; rfl) | (obtain ⟨_, _, _, _, _, _, _, _, rfl, _⟩ := h; rfl) | (obtain ⟨_, _, _, _, _, _, _, _, _, rfl, _⟩ := h; rfl)) (fun cdv A outer s H vs Q E hr h => ⟨t_oplace K a.C a.WD a.BO a.f_oplace E, ?_, pure_oplace vs H Q E h⟩)
  exact (pss_cons (ps_expr (pe_call G_chke (hr.mono (by decide)) rfl T.g_chke T.k_chke T.b_chke .nil (passes_call (takes_of rfl rfl rfl rfl) (fun _ _ _ _ h => h)) (pa_cons (pv 1) (pa_cons (pe_fldA (pv 0) T.isa_Order.cl T.na_dimension rfl) pa_nil))))
      (pss_cons (ps_setLc (i := 2) (own := [("index", 3)]) (g := (gName 3)) (tt := tYes) (by rfl) sc_oplace.nd rfl rfl (sw_true rfl rfl rfl (by decide +kernel)) (pi_tup (pe_fldA (pv 0) T.isa_Order.cl T.na_ranking rfl)) (blkOk_by (own := [("index", 3)]) (N := ["self", "exponents", "ranked", "index", "exponent"]) (sc := defScope s_oplace) (by decide +kernel)) (fun _ _ _ _ _ => (pg_name (i := 3) sc_oplace.nd rfl (.inl rfl))) (fun _ _ _ _ _ => pts_nil) (fun _ _ _ _ _ => (pe_ix ix_1 (pv 1) (pv 3) (fun _ _ => rfl))))
      (pss_cons (ps_if (pt_cmpR op_eq (pe_fldA (pv 0) T.isa_Order.cl T.na_kind rfl) (pe_gc rfl T.c_BY_DEGREE) (nomark _)) (pss_one (ps_ret (pe_tup (pa_cons (pe_callB (call_sumA rfl) (by rfl) T.n_sum (by decide +kernel) (pa_cons (pv 2) pa_nil)) (pa_star (pe_lc (own := [("exponent", 4)]) (g := (gName 4)) (tt := tYes) (by rfl) sc_oplace.nd (pi_list (pv 2)) (blkOk_by (own := [("exponent", 4)]) (N := ["self", "exponents", "ranked", "index", "exponent"]) (sc := defScope s_oplace) (by decide +kernel)) (fun _ _ _ _ _ => (pg_name (i := 4) sc_oplace.nd rfl (.inl rfl))) (fun _ _ _ _ _ => pts_nil) (fun _ _ _ _ _ => (pe_un un_neg (pv 4)))) pa_nil))))) pss_nil)
      (pss_one (ps_ret (pe_callTy call_tupA (by rfl) T.n_tuple (by decide +kernel) (pa_cons (pv 2) pa_nil)))))))
theorem ok_oprec (T : Txt K mg a) : FnOk P w K mg base (L2.CX P w) 3 a.f_oprec a.d_oprec ["self", "first", "second"] (spOPrec a.C a.WD) := by
  have G_oplace := ok_oplace (P := P) (w := w) (base := base) T
  refine T.F_oprec.okX sc_oprec (fun vs H Q E h => by first | (obtain ⟨rfl, _⟩ := h; rfl) | (obtain ⟨_, rfl, _⟩ := h; rfl) | (obtain ⟨_, _, rfl, _⟩ := h; rfl) | (obtain ⟨_, _, _, rfl, _⟩ := h; rfl) | (obtain ⟨_, _, _, _, rfl, _⟩ := h; rfl) | (obtain ⟨_, _, _, _, _, rfl, _⟩ := h; rfl) | (obtain ⟨_, _, _, _, _, _, rfl, _⟩ := h; rfl) | (obtain ⟨_, _, _, _, _, _, _, rfl, _⟩ := h; rfl) | (obtain ⟨_, _, _, _, _, _, _, _, rfl, _⟩ := h; rfl) | (obtain ⟨_, _, _, _, _, _, _, _, _, rfl, _⟩ := h; rfl)) (fun cdv A outer s H vs Q E hr h => ⟨t_oprec K a.C a.WD a.BO a.f_oplace E, ?_, pure_oprec T.isa_Order.cl vs H Q E h⟩)
  exact (pss_one (ps_ret (pe_cmpR (op_ltA hr.units0) (pe_meth (pv 0) T.isa_Order.cl T.m_oplace G_oplace (hr.mono (by decide)) T.b_oplace .nil (passes_call (takes_of rfl rfl rfl rfl) (fun _ _ _ _ h => h)) (pa_cons (pv 1) pa_nil)) (pe_meth (pv 0) T.isa_Order.cl T.m_oplace G_oplace (hr.mono (by decide)) T.b_oplace .nil (passes_call (takes_of rfl rfl rfl rfl) (fun _ _ _ _ h => h)) (pa_cons (pv 2) pa_nil)) (nomark _))))
theorem ok_oarr (T : Txt K mg a) : FnOk P w K mg base (L2.CX P w) 5 a.f_oarr a.d_oarr ["self", "monomials"] (spOArr a.C a.WD) := by
  have G_oplace := ok_oplace (P := P) (w := w) (base := base) T
  refine T.F_oarr.okX sc_oarr (fun vs H Q E h => by first | (obtain ⟨rfl, _⟩ := h; rfl) | (obtain ⟨_, rfl, _⟩ := h; rfl) | (obtain ⟨_, _, rfl, _⟩ := h; rfl) | (obtain ⟨_, _, _, rfl, _⟩ := h; rfl) | (obtain ⟨_, _, _, _, rfl, _⟩ := h; rfl) | (obtain ⟨_, _, _, _, _, rfl, _⟩ := h; rfl) | (obtain ⟨_, _, _, _, _, _, rfl, _⟩ := h; rfl) | (obtain ⟨_, _, _, _, _, _, _, rfl, _⟩ := h; rfl) | (obtain ⟨_, _, _, _, _, _, _, _, rfl, _⟩ := h; rfl) | (obtain ⟨_, _, _, _, _, _, _, _, _, rfl, _⟩ := h; rfl)) (fun cdv A outer s H vs Q E hr h => ⟨t_oarr K a.C a.WD a.BO a.f_oplace E, ?_, pure_oarr vs H Q E h⟩)
  exact (pss_one (ps_ret (pe_callBK (cr_sortedM (E := E) G_oplace (hr.mono (by decide)) T.b_oplace (takes_of rfl rfl rfl rfl)) (by rfl) T.n_sorted (by decide +kernel) (pa_cons (pe_callTy call_listA (by rfl) T.n_list (by decide +kernel) (pa_cons (pv 1) pa_nil)) pa_nil) (pk_cons (pe_bound (pv 0) T.isa_Order.cl T.bm_oplace rfl) pk_nil))))
theorem ok_oeq (T : Txt K mg a) : FnOk P w K mg base CX0 1 a.f_oeq a.d_oeq ["self", "other"] (spOEq a.C) := by
  refine T.F_oeq.ok sc_oeq (fun vs H Q E h => by first | (obtain ⟨rfl, _⟩ := h; rfl) | (obtain ⟨_, rfl, _⟩ := h; rfl) | (obtain ⟨_, _, rfl, _⟩ := h; rfl) | (obtain ⟨_, _, _, rfl, _⟩ := h; rfl) | (obtain ⟨_, _, _, _, rfl, _⟩ := h; rfl) | (obtain ⟨_, _, _, _, _, rfl, _⟩ := h; rfl) | (obtain ⟨_, _, _, _, _, _, rfl, _⟩ := h; rfl) | (obtain ⟨_, _, _, _, _, _, _, rfl, _⟩ := h; rfl) | (obtain ⟨_, _, _, _, _, _, _, _, rfl, _⟩ := h; rfl) | (obtain ⟨_, _, _, _, _, _, _, _, _, rfl, _⟩ := h; rfl)) (fun cdv A outer s H vs Q E hr h => ⟨t_oeq K a.C a.WD a.BO a.f_oplace E, ?_, pure_oeq vs H Q E h⟩)
  exact (pss_one (ps_ret (pe_and (pe_callB (call_isA T.isa_Order) (by rfl) T.n_isinstance (by decide +kernel) (pa_cons (pv 1) (pa_cons (pe_glob rfl T.g_Order rfl) pa_nil))) (pe_and (pe_cmpR op_eq (pe_fldA (pv 0) T.isa_Order.cl T.na_kind rfl) (pe_fldA (pv 1) T.isa_Order.cl T.na_kind rfl) (nomark _)) (pe_one (pe_cmpR (op_eqP hr.units) (pe_fldA (pv 0) T.isa_Order.cl T.na_ranking rfl) (pe_fldA (pv 1) T.isa_Order.cl T.na_ranking rfl) (nomark _)))))))
theorem ok_omons (T : Txt K mg a) : FnOk P w K mg base CX0 1 a.f_omons a.d_omons ["dimension", "high"] spOMons := by
  refine T.F_omons.ok sc_omons (fun vs H Q E h => by first | (obtain ⟨rfl, _⟩ := h; rfl) | (obtain ⟨_, rfl, _⟩ := h; rfl) | (obtain ⟨_, _, rfl, _⟩ := h; rfl) | (obtain ⟨_, _, _, rfl, _⟩ := h; rfl) | (obtain ⟨_, _, _, _, rfl, _⟩ := h; rfl) | (obtain ⟨_, _, _, _, _, rfl, _⟩ := h; rfl) | (obtain ⟨_, _, _, _, _, _, rfl, _⟩ := h; rfl) | (obtain ⟨_, _, _, _, _, _, _, rfl, _⟩ := h; rfl) | (obtain ⟨_, _, _, _, _, _, _, _, rfl, _⟩ := h; rfl) | (obtain ⟨_, _, _, _, _, _, _, _, _, rfl, _⟩ := h; rfl)) (fun cdv A outer s H vs Q E hr h => ⟨t_omons K a.C a.WD a.BO a.f_oplace E, ?_, pure_omons vs H Q E h⟩)
  exact (pss_cons (ps_set (i := 2) sc_omons.nd rfl (.inl rfl) (pe_lst pa_nil))
      (pss_cons (ps_for PassesOwn.never rfl (pi_range1 rfl T.n_range (pa_cons (pe_op op_add (pv 1) pe_int) pa_nil)) (pg_name (i := 3) sc_omons.nd rfl (.inl rfl)) (pss_one (ps_for PassesOwn.never rfl (pi_range1 rfl T.n_range (pa_cons (pe_op op_add (pv 3) pe_int) pa_nil)) (pg_name (i := 4) sc_omons.nd rfl (.inl rfl)) (pss_cons (ps_set (i := 5) sc_omons.nd rfl (.inl rfl) (pe_op op_sub (pv 3) (pv 4)))
      (pss_cons (ps_if (PW.pt (pw_and (pt_cmpR op_eq (pv 0) pe_int (nomark _)) (pw_and1 (pt_cmpR op_eq (pv 4) pe_int (nomark _))))) (pss_one (ps_expr (pe_bm PySem.F.plainAttrs_list PySem.F.slot_list_append PySem.F.type_list_append mt_append (pv 2) (pa_cons (pe_tup (pa_cons (pv 3) pa_nil)) pa_nil)))) pss_nil)
      (pss_cons (ps_if (pt_cmpR op_eq (pv 0) pe_int (nomark _)) (pss_one (ps_expr (pe_bm PySem.F.plainAttrs_list PySem.F.slot_list_append PySem.F.type_list_append mt_append (pv 2) (pa_cons (pe_tup (pa_cons (pv 5) (pa_cons (pv 4) pa_nil))) pa_nil)))) pss_nil)
      (pss_one (ps_if (pt_cmpR op_eq (pv 0) pe_int (nomark _)) (pss_one (ps_for PassesOwn.never rfl (pi_range1 rfl T.n_range (pa_cons (pe_op op_add (pv 4) pe_int) pa_nil)) (pg_name (i := 6) sc_omons.nd rfl (.inl rfl)) (pss_one (ps_expr (pe_bm PySem.F.plainAttrs_list PySem.F.slot_list_append PySem.F.type_list_append mt_append (pv 2) (pa_cons (pe_tup (pa_cons (pv 5) (pa_cons (pe_op op_sub (pv 4) (pv 6)) (pa_cons (pv 6) pa_nil)))) pa_nil)))))) pss_nil))))))))
      (pss_one (ps_ret (pv 2)))))
theorem ok_orank (T : Txt K mg a) : FnOk P w K mg base CX0 2 a.f_orank a.d_orank ["pool", "dimension"] spORank := by
  have G_take := ok_take (P := P) (w := w) (base := base) T
  refine T.F_orank.ok sc_orank (fun vs H Q E h => by first | (obtain ⟨rfl, _⟩ := h; rfl) | (obtain ⟨_, rfl, _⟩ := h; rfl) | (obtain ⟨_, _, rfl, _⟩ := h; rfl) | (obtain ⟨_, _, _, rfl, _⟩ := h; rfl) | (obtain ⟨_, _, _, _, rfl, _⟩ := h; rfl) | (obtain ⟨_, _, _, _, _, rfl, _⟩ := h; rfl) | (obtain ⟨_, _, _, _, _, _, rfl, _⟩ := h; rfl) | (obtain ⟨_, _, _, _, _, _, _, rfl, _⟩ := h; rfl) | (obtain ⟨_, _, _, _, _, _, _, _, rfl, _⟩ := h; rfl) | (obtain ⟨_, _, _, _, _, _, _, _, _, rfl, _⟩ := h; rfl)) (fun cdv A outer s H vs Q E hr h => ⟨t_orank K a.C a.WD a.BO a.f_oplace E, ?_, pure_orank vs H Q E h⟩)
  exact (pss_cons (ps_set (i := 2) sc_orank.nd rfl (.inl rfl) (pe_lst pa_nil))
      (pss_cons (ps_set (i := 3) sc_orank.nd rfl (.inl rfl) (pe_callTy (call_listR rfl) (by rfl) T.n_list (by decide +kernel) (pa_cons (pe_callTy cr_rangeV (by rfl) T.n_range (by decide +kernel) (pa_cons (pv 1) pa_nil)) pa_nil)))
      (pss_cons (ps_for PassesOwn.never rfl (pi_range1 rfl T.n_range (pa_cons (pv 1) pa_nil)) (pg_name (i := 4) sc_orank.nd rfl (.inl rfl)) (pss_cons (ps_set (i := 5) sc_orank.nd rfl (.inl rfl) (pe_call G_take (hr.mono (by decide)) rfl T.g_take T.k_take T.b_take .nil pass0 (pa_cons (pv 0) (pa_cons (pe_callB call_lenA (by rfl) T.n_len boot_len (pa_cons (pv 3) pa_nil)) pa_nil))))
      (pss_cons (ps_expr (pe_bm PySem.F.plainAttrs_list PySem.F.slot_list_append PySem.F.type_list_append mt_append (pv 2) (pa_cons (pe_ix ix_1 (pv 3) (pv 5) (fun _ _ => rfl)) pa_nil)))
      (pss_one (ps_set (i := 3) sc_orank.nd rfl (.inl rfl) (pe_op op_cat (pe_slice sl_A (pv 3) po_none (po_some (pv 5))) (pe_slice sl_A (pv 3) (po_some (pe_op op_add (pv 5) pe_int)) po_none)))))))
      (pss_one (ps_ret (pv 2))))))
theorem ok_onear (T : Txt K mg a) : FnOk P w K mg base CX0 2 a.f_onear a.d_onear ["pool", "before"] spONear := by
  have G_omons := ok_omons (P := P) (w := w) (base := base) T
  have G_take := ok_take (P := P) (w := w) (base := base) T
  refine T.F_onear.ok sc_onear (fun vs H Q E h => by first | (obtain ⟨rfl, _⟩ := h; rfl) | (obtain ⟨_, rfl, _⟩ := h; rfl) | (obtain ⟨_, _, rfl, _⟩ := h; rfl) | (obtain ⟨_, _, _, rfl, _⟩ := h; rfl) | (obtain ⟨_, _, _, _, rfl, _⟩ := h; rfl) | (obtain ⟨_, _, _, _, _, rfl, _⟩ := h; rfl) | (obtain ⟨_, _, _, _, _, _, rfl, _⟩ := h; rfl) | (obtain ⟨_, _, _, _, _, _, _, rfl, _⟩ := h; rfl) | (obtain ⟨_, _, _, _, _, _, _, _, rfl, _⟩ := h; rfl) | (obtain ⟨_, _, _, _, _, _, _, _, _, rfl, _⟩ := h; rfl)) (fun cdv A outer s H vs Q E hr h => ⟨t_onear K a.C a.WD a.BO a.f_oplace E, ?_, pure_onear vs H Q E h⟩)
  exact (pss_cons (ps_set (i := 2) sc_onear.nd rfl (.inl rfl) (pe_call G_omons (hr.mono (by decide)) rfl T.g_omons T.k_omons T.b_omons .nil pass0 (pa_cons (pe_callB call_lenA (by rfl) T.n_len boot_len (pa_cons (pv 1) pa_nil)) (pa_cons pe_int pa_nil))))
      (pss_cons (ps_set (i := 3) sc_onear.nd rfl (.inl rfl) (pe_callTy call_listA (by rfl) T.n_list (by decide +kernel) (pa_cons (pv 1) pa_nil)))
      (pss_cons (ps_set (i := 4) sc_onear.nd rfl (.inl rfl) (pe_call G_take (hr.mono (by decide)) rfl T.g_take T.k_take T.b_take .nil pass0 (pa_cons (pv 0) (pa_cons (pe_callB call_lenA (by rfl) T.n_len boot_len (pa_cons (pv 1) pa_nil)) pa_nil))))
      (pss_cons (ps_set (i := 5) sc_onear.nd rfl (.inl rfl) (pe_call G_take (hr.mono (by decide)) rfl T.g_take T.k_take T.b_take .nil pass0 (pa_cons (pv 0) (pa_cons (pe_callB call_lenA (by rfl) T.n_len boot_len (pa_cons (pv 1) pa_nil)) pa_nil))))
      (pss_cons (ps_if (PW.pt (pw_or (pt_cmpR op_eq (pe_call G_take (hr.mono (by decide)) rfl T.g_take T.k_take T.b_take .nil pass0 (pa_cons (pv 0) (pa_cons pe_int pa_nil))) pe_int (nomark _)) (pw_or1 (pt_cmpR op_eq (pe_ix ix_1 (pv 3) (pv 4) (fun _ _ => rfl)) pe_int (nomark _))))) (pss_one (ps_ret (pe_ix ix_1 (pv 2) (pe_call G_take (hr.mono (by decide)) rfl T.g_take T.k_take T.b_take .nil pass0 (pa_cons (pv 0) (pa_cons (pe_callB call_lenA (by rfl) T.n_len boot_len (pa_cons (pv 2) pa_nil)) pa_nil))) (fun _ _ => rfl)))) pss_nil)
      (pss_cons (ps_asg (pe_op op_sub (pe_ix ix_1 (pv 3) (pv 4) (fun _ _ => rfl)) pe_int) (pg_sub (pv 3) (pv 4) set_list))
      (pss_cons (ps_asg (pe_op op_add (pe_ix ix_1 (pv 3) (pv 5) (fun _ _ => rfl)) pe_int) (pg_sub (pv 3) (pv 5) set_list))
      (pss_one (ps_ret (pe_callTy call_tupA (by rfl) T.n_tuple (by decide +kernel) (pa_cons (pv 3) pa_nil)))))))))))
theorem ok_oword (T : Txt K mg a) : FnOk P w K mg base CX0 2 a.f_oword a.d_oword ["pool"] spOWord := by
  have G_take := ok_take (P := P) (w := w) (base := base) T
  refine T.F_oword.ok sc_oword (fun vs H Q E h => by first | (obtain ⟨rfl, _⟩ := h; rfl) | (obtain ⟨_, rfl, _⟩ := h; rfl) | (obtain ⟨_, _, rfl, _⟩ := h; rfl) | (obtain ⟨_, _, _, rfl, _⟩ := h; rfl) | (obtain ⟨_, _, _, _, rfl, _⟩ := h; rfl) | (obtain ⟨_, _, _, _, _, rfl, _⟩ := h; rfl) | (obtain ⟨_, _, _, _, _, _, rfl, _⟩ := h; rfl) | (obtain ⟨_, _, _, _, _, _, _, rfl, _⟩ := h; rfl) | (obtain ⟨_, _, _, _, _, _, _, _, rfl, _⟩ := h; rfl) | (obtain ⟨_, _, _, _, _, _, _, _, _, rfl, _⟩ := h; rfl)) (fun cdv A outer s H vs Q E hr h => ⟨t_oword K a.C a.WD a.BO a.f_oplace E, ?_, pure_oword vs H Q E h⟩)
  exact (pss_cons (ps_set (i := 1) sc_oword.nd rfl (.inl rfl) (pe_ix ix_1 (pe_lst (pa_cons pe_str (pa_cons pe_str pa_nil))) (pe_call G_take (hr.mono (by decide)) rfl T.g_take T.k_take T.b_take .nil pass0 (pa_cons (pv 0) (pa_cons pe_int pa_nil))) (fun _ _ => rfl)))
      (pss_cons (ps_set (i := 2) sc_oword.nd rfl (.inl rfl) pe_str)
      (pss_cons (ps_set (i := 3) sc_oword.nd rfl (.inl rfl) (pe_call G_take (hr.mono (by decide)) rfl T.g_take T.k_take T.b_take .nil pass0 (pa_cons (pv 0) (pa_cons pe_int pa_nil))))
      (pss_cons (ps_set (i := 4) sc_oword.nd rfl (.inl rfl) (pe_call G_take (hr.mono (by decide)) rfl T.g_take T.k_take T.b_take .nil pass0 (pa_cons (pv 0) (pa_cons (pe_op op_add (pe_callB call_lenT (by rfl) T.n_len boot_len (pa_cons (pv 1) pa_nil)) pe_int) pa_nil))))
      (pss_cons (ps_set (i := 5) sc_oword.nd rfl (.inl rfl) (pe_ix ix_str (pv 2) (pe_call G_take (hr.mono (by decide)) rfl T.g_take T.k_take T.b_take .nil pass0 (pa_cons (pv 0) (pa_cons pe_int pa_nil))) (fun _ _ => rfl)))
      (pss_cons (ps_if (pt_cmpR op_eq (pv 3) pe_int (nomark _)) (pss_one (ps_set (i := 1) sc_oword.nd rfl (.inl rfl) (pe_op op_addT (pe_op op_addT (pe_slice sl_str (pv 1) po_none (po_some (pv 4))) (pv 5)) (pe_slice sl_str (pv 1) (po_some (pe_op op_add (pv 4) pe_int)) po_none)))) pss_nil)
      (pss_cons (ps_if (pt_cmpR op_eq (pv 3) pe_int (nomark _)) (pss_one (ps_set (i := 1) sc_oword.nd rfl (.inl rfl) (pe_op op_addT (pe_op op_addT (pe_slice sl_str (pv 1) po_none (po_some (pv 4))) (pv 5)) (pe_slice sl_str (pv 1) (po_some (pv 4)) po_none)))) pss_nil)
      (pss_cons (ps_if (pt_cmpR op_eq (pv 3) pe_int (nomark _)) (pss_one (ps_set (i := 1) sc_oword.nd rfl (.inl rfl) (pe_slice sl_str (pv 1) po_none (po_some (pv 4))))) pss_nil)
      (pss_one (ps_ret (pv 1)))))))))))
theorem ok_oearl (T : Txt K mg a) : FnOk P w K mg base CX0 1 a.f_oearl a.d_oearl ["kind", "ranking", "one", "two"] spOEarl := by
  refine T.F_oearl.ok sc_oearl (fun vs H Q E h => by first | (obtain ⟨rfl, _⟩ := h; rfl) | (obtain ⟨_, rfl, _⟩ := h; rfl) | (obtain ⟨_, _, rfl, _⟩ := h; rfl) | (obtain ⟨_, _, _, rfl, _⟩ := h; rfl) | (obtain ⟨_, _, _, _, rfl, _⟩ := h; rfl) | (obtain ⟨_, _, _, _, _, rfl, _⟩ := h; rfl) | (obtain ⟨_, _, _, _, _, _, rfl, _⟩ := h; rfl) | (obtain ⟨_, _, _, _, _, _, _, rfl, _⟩ := h; rfl) | (obtain ⟨_, _, _, _, _, _, _, _, rfl, _⟩ := h; rfl) | (obtain ⟨_, _, _, _, _, _, _, _, _, rfl, _⟩ := h; rfl)) (fun cdv A outer s H vs Q E hr h => ⟨t_oearl K a.C a.WD a.BO a.f_oplace E, ?_, pure_oearl vs H Q E h⟩)
  exact (pss_cons (ps_if (PW.pt (pw_and (pt_cmpR op_eq (pv 0) pe_str (nomark _)) (pw_and1 (pt_cmpR op_ne (pe_callB (call_sumA rfl) (by rfl) T.n_sum (by decide +kernel) (pa_cons (pv 2) pa_nil)) (pe_callB (call_sumA rfl) (by rfl) T.n_sum (by decide +kernel) (pa_cons (pv 3) pa_nil)) (nomark _))))) (pss_one (ps_ret (pe_cmpR op_lt (pe_callB (call_sumA rfl) (by rfl) T.n_sum (by decide +kernel) (pa_cons (pv 2) pa_nil)) (pe_callB (call_sumA rfl) (by rfl) T.n_sum (by decide +kernel) (pa_cons (pv 3) pa_nil)) (nomark _)))) pss_nil)
      (pss_cons (ps_for PassesOwn.never rfl (pi_list (pv 1)) (pg_name (i := 4) sc_oearl.nd rfl (.inl rfl)) (pss_one (ps_if (pt_cmpR op_ne (pe_ix ix_1 (pv 2) (pv 4) (fun _ _ => rfl)) (pe_ix ix_1 (pv 3) (pv 4) (fun _ _ => rfl)) (nomark _)) (pss_one (ps_ret (pe_cmpR op_eq (pe_cmpR op_gt (pe_ix ix_1 (pv 2) (pv 4) (fun _ _ => rfl)) (pe_ix ix_1 (pv 3) (pv 4) (fun _ _ => rfl)) (nomark _)) (pe_cmpR op_eq (pv 0) pe_str (nomark _)) (nomark _)))) pss_nil)))
      (pss_one (ps_ret pe_bl))))
theorem ok_oasc (T : Txt K mg a) : FnOk P w K mg base CX0 2 a.f_oasc a.d_oasc ["kind", "ranking", "places"] spOAsc := by
  have G_oearl := ok_oearl (P := P) (w := w) (base := base) T
  refine T.F_oasc.ok sc_oasc (fun vs H Q E h => by first | (obtain ⟨rfl, _⟩ := h; rfl) | (obtain ⟨_, rfl, _⟩ := h; rfl) | (obtain ⟨_, _, rfl, _⟩ := h; rfl) | (obtain ⟨_, _, _, rfl, _⟩ := h; rfl) | (obtain ⟨_, _, _, _, rfl, _⟩ := h; rfl) | (obtain ⟨_, _, _, _, _, rfl, _⟩ := h; rfl) | (obtain ⟨_, _, _, _, _, _, rfl, _⟩ := h; rfl) | (obtain ⟨_, _, _, _, _, _, _, rfl, _⟩ := h; rfl) | (obtain ⟨_, _, _, _, _, _, _, _, rfl, _⟩ := h; rfl) | (obtain ⟨_, _, _, _, _, _, _, _, _, rfl, _⟩ := h; rfl)) (fun cdv A outer s H vs Q E hr h => ⟨t_oasc K a.C a.WD a.BO a.f_oplace E, ?_, pure_oasc vs H Q E h⟩)
  exact (pss_cons (ps_set (i := 3) sc_oasc.nd rfl (.inl rfl) (pe_lst pa_nil))
      (pss_cons (ps_for PassesOwn.never rfl (pi_list (pv 2)) (pg_name (i := 4) sc_oasc.nd rfl (.inr rfl)) (pss_cons (ps_set (i := 5) sc_oasc.nd rfl (.inl rfl) (pe_callB call_lenA (by rfl) T.n_len boot_len (pa_cons (pe_lc (own := [("other", 6)]) (g := (gName 6)) (tt := (tB (tCall spOEarl [] E0 (tCons (tVar 0) (tCons (tVar 1) (tCons (tVar 6) (tCons (tVar 4) tNil))))))) (by rfl) sc_oasc.nd (pi_list (pv 3)) (blkOk_by (own := [("other", 6)]) (N := ["kind", "ranking", "places", "found", "place", "at", "other"]) (sc := defScope s_oasc) (by decide +kernel)) (fun _ _ _ _ _ => (pg_name (i := 6) sc_oasc.nd rfl (.inl rfl))) (fun _ _ _ _ _ => (pts_one (pt_val (pe_call G_oearl (hr.mono (by decide)) rfl T.g_oearl T.k_oearl T.b_oearl .nil pass0 (pa_cons (pv 0) (pa_cons (pv 1) (pa_cons (pv 6) (pa_cons (pv 4) pa_nil)))))))) (fun _ _ _ _ _ => (pv 6))) pa_nil)))
      (pss_one (ps_set (i := 3) sc_oasc.nd rfl (.inl rfl) (pe_op op_cat (pe_op op_cat (pe_slice sl_A (pv 3) po_none (po_some (pv 5))) (pe_lst (pa_cons (pv 4) pa_nil))) (pe_slice sl_A (pv 3) (po_some (pv 5)) po_none))))))
      (pss_one (ps_ret (pv 3)))))
theorem ok_says (T : Txt K mg a) : FnOk P w K mg base CX0 1 a.f_says a.d_says ["told", "due"] spSays := by
  refine T.F_says.ok sc_says (fun vs H Q E h => by first | (obtain ⟨rfl, _⟩ := h; rfl) | (obtain ⟨_, rfl, _⟩ := h; rfl) | (obtain ⟨_, _, rfl, _⟩ := h; rfl) | (obtain ⟨_, _, _, rfl, _⟩ := h; rfl) | (obtain ⟨_, _, _, _, rfl, _⟩ := h; rfl) | (obtain ⟨_, _, _, _, _, rfl, _⟩ := h; rfl) | (obtain ⟨_, _, _, _, _, _, rfl, _⟩ := h; rfl) | (obtain ⟨_, _, _, _, _, _, _, rfl, _⟩ := h; rfl) | (obtain ⟨_, _, _, _, _, _, _, _, rfl, _⟩ := h; rfl) | (obtain ⟨_, _, _, _, _, _, _, _, _, rfl, _⟩ := h; rfl)) (fun cdv A outer s H vs Q E hr h => ⟨t_says K a.WD E, ?_, pure_says vs H Q E h⟩)
  exact (pss_one (ps_ret (pe_and (pe_callB call_isB (by rfl) T.n_isinstance (by decide +kernel) (pa_cons (pv 0) (pa_cons (pe_bltn (by rfl) T.n_bool (by decide +kernel) rfl) pa_nil))) (pe_one (pe_cmpR op_eq (pv 0) (pv 1) (nomark _))))))
theorem ok_ois (T : Txt K mg a) : FnOk P w K mg base CX0 2 a.f_ois a.d_ois ["order", "kind", "ranking"] (spOIs a.C) := by
  have G_integer := ok_integer (P := P) (w := w) (base := base) T
  refine T.F_ois.ok sc_ois (fun vs H Q E h => by first | (obtain ⟨rfl, _⟩ := h; rfl) | (obtain ⟨_, rfl, _⟩ := h; rfl) | (obtain ⟨_, _, rfl, _⟩ := h; rfl) | (obtain ⟨_, _, _, rfl, _⟩ := h; rfl) | (obtain ⟨_, _, _, _, rfl, _⟩ := h; rfl) | (obtain ⟨_, _, _, _, _, rfl, _⟩ := h; rfl) | (obtain ⟨_, _, _, _, _, _, rfl, _⟩ := h; rfl) | (obtain ⟨_, _, _, _, _, _, _, rfl, _⟩ := h; rfl) | (obtain ⟨_, _, _, _, _, _, _, _, rfl, _⟩ := h; rfl) | (obtain ⟨_, _, _, _, _, _, _, _, _, rfl, _⟩ := h; rfl)) (fun cdv A outer s H vs Q E hr h => ⟨t_ois K a.C a.WD a.BO a.f_oplace E, ?_, pure_ois vs H Q E h⟩)
  exact (pss_cons (ps_if (PW.pt (pw_or (pt_not (pt_val (pe_callB (call_isA T.isa_Order) (by rfl) T.n_isinstance (by decide +kernel) (pa_cons (pv 0) (pa_cons (pe_glob rfl T.g_Order rfl) pa_nil))))) (pw_or (pt_not (pt_val (pe_callB call_isS (by rfl) T.n_isinstance (by decide +kernel) (pa_cons (pe_fldA (pv 0) T.isa_Order.cl T.na_kind rfl) (pa_cons (pe_bltn (by rfl) T.n_str (by decide +kernel) rfl) pa_nil))))) (pw_or1 (pt_cmpR op_ne (pe_fldA (pv 0) T.isa_Order.cl T.na_kind rfl) (pv 1) (nomark _)))))) (pss_one (ps_ret pe_bl)) pss_nil)
      (pss_cons (ps_if (PW.pt (pw_or (pt_not (pt_val (pe_callB call_isB (by rfl) T.n_isinstance (by decide +kernel) (pa_cons (pe_fldA (pv 0) T.isa_Order.cl T.na_ranking rfl) (pa_cons (pe_bltn (by rfl) T.n_tuple (by decide +kernel) rfl) pa_nil))))) (pw_or1 (pt_cmpR op_ne (pe_callB call_lenA (by rfl) T.n_len boot_len (pa_cons (pe_fldA (pv 0) T.isa_Order.cl T.na_ranking rfl) pa_nil)) (pe_callB call_lenA (by rfl) T.n_len boot_len (pa_cons (pv 2) pa_nil)) (nomark _))))) (pss_one (ps_ret pe_bl)) pss_nil)
      (pss_cons (ps_for PassesOwn.never rfl (pi_range1 rfl T.n_range (pa_cons (pe_callB call_lenA (by rfl) T.n_len boot_len (pa_cons (pv 2) pa_nil)) pa_nil)) (pg_name (i := 3) sc_ois.nd rfl (.inl rfl)) (pss_one (ps_if (PW.pt (pw_or (pt_not (pt_val (pe_call G_integer (hr.mono (by decide)) rfl T.g_integer T.k_integer T.b_integer .nil pass0 (pa_cons (pe_ix ix_1 (pe_fldA (pv 0) T.isa_Order.cl T.na_ranking rfl) (pv 3) (fun _ _ => rfl)) pa_nil)))) (pw_or1 (pt_cmpR op_ne (pe_ix ix_1 (pe_fldA (pv 0) T.isa_Order.cl T.na_ranking rfl) (pv 3) (fun _ _ => rfl)) (pe_ix ix_1 (pv 2) (pv 3) (fun _ _ => rfl)) (nomark _))))) (pss_one (ps_ret pe_bl)) pss_nil)))
      (pss_one (ps_ret (pe_and (pe_call G_integer (hr.mono (by decide)) rfl T.g_integer T.k_integer T.b_integer .nil pass0 (pa_cons (pe_fldA (pv 0) T.isa_Order.cl T.na_dimension rfl) pa_nil)) (pe_one (pe_cmpR op_eq (pe_fldA (pv 0) T.isa_Order.cl T.na_dimension rfl) (pe_callB call_lenA (by rfl) T.n_len boot_len (pa_cons (pv 2) pa_nil)) (nomark _)))))))))
theorem ok_nord (T : Txt K mg a) : FnOk P w K mg base CX0 9 a.f_nord a.d_nord ["kind", "ranking"] (spNOrd a.C a.BO) := by
  have G_oinit := ok_oinit (P := P) (w := w) (base := base) T
  refine T.F_nord.ok sc_nord (fun vs H Q E h => by first | (obtain ⟨rfl, _⟩ := h; rfl) | (obtain ⟨_, rfl, _⟩ := h; rfl) | (obtain ⟨_, _, rfl, _⟩ := h; rfl) | (obtain ⟨_, _, _, rfl, _⟩ := h; rfl) | (obtain ⟨_, _, _, _, rfl, _⟩ := h; rfl) | (obtain ⟨_, _, _, _, _, rfl, _⟩ := h; rfl) | (obtain ⟨_, _, _, _, _, _, rfl, _⟩ := h; rfl) | (obtain ⟨_, _, _, _, _, _, _, rfl, _⟩ := h; rfl) | (obtain ⟨_, _, _, _, _, _, _, _, rfl, _⟩ := h; rfl) | (obtain ⟨_, _, _, _, _, _, _, _, _, rfl, _⟩ := h; rfl)) (fun cdv A outer s H vs Q E hr h => ⟨t_nord K a.C a.BO a.SE a.BT a.WD a.BI, ?_, pure_nord T.exBO vs H Q E h⟩)
  exact (pss_cons (ps_set (i := 2) sc_nord.nd rfl (.inl rfl) pe_bl)
      (pss_cons (ps_try_as (i := 3) (tb := t_nordb a.C a.BO) (ts := t_nordc K a.BO a.SE a.BT a.WD a.BI) (Wout := fun _ _ _ _ => False) rfl rfl sc_nord.nd rfl rfl ⟨rfl, by decide, Or.inl T.g_BadOrder⟩ takes0
      (fun W pn xe tk _ => (pss_one (ps_expr (by exact (pe_makeS T.mk_Order G_oinit (hr.mono (by decide)) rfl T.g_Order T.b_oinit (fun σ => passAt tk σ) (pa_cons (pv 0) (pa_cons (pv 1) pa_nil)))))))
      (fun a0 oe cls d pn hz hf => (pss_cons (ps_set (i := 2) sc_nord.nd rfl (.inl rfl) (by exact (pe_and (pe_callB (call_caught T.exBO.cz hz hf) (by rfl) T.n_isinstance (by decide +kernel) (pa_cons (pv 3) (pa_cons (pe_glob rfl T.g_SpotError rfl) pa_nil))) (pe_and (pe_callB (call_caught T.exBO.cz hz hf) (by rfl) T.n_isinstance (by decide +kernel) (pa_cons (pv 3) (pa_cons (pe_bltn (by rfl) T.n_ValueError (by decide +kernel) rfl) pa_nil))) (pe_one (pe_not (pe_callB (call_caught T.exBO.cz hz hf) (by rfl) T.n_isinstance (by decide +kernel) (pa_cons (pv 3) (pa_cons (pe_glob rfl T.g_BadText rfl) pa_nil)))))))))
      (pss_one (ps_set (i := 2) sc_nord.nd rfl (.inl rfl) (by exact (pe_and (pv 2) (pe_and (pe_not (pe_callB (call_caught T.exBO.cz hz hf) (by rfl) T.n_isinstance (by decide +kernel) (pa_cons (pv 3) (pa_cons (pe_glob rfl T.g_WrongDimension rfl) pa_nil)))) (pe_one (pe_not (pe_callB (call_caught T.exBO.cz hz hf) (by rfl) T.n_isinstance (by decide +kernel) (pa_cons (pv 3) (pa_cons (pe_glob rfl T.g_BadIndex rfl) pa_nil)))))))))))))
      (pss_one (ps_ret (pv 2)))))
theorem ok_narr (T : Txt K mg a) : FnOk P w K mg base CX0 12 a.f_narr a.d_narr ["order", "places"] (spNArr a.C) := by
  have G_oarr := ok_oarr (P := P) (w := w) (base := base) T
  refine T.F_narr.ok sc_narr (fun vs H Q E h => by first | (obtain ⟨rfl, _⟩ := h; rfl) | (obtain ⟨_, rfl, _⟩ := h; rfl) | (obtain ⟨_, _, rfl, _⟩ := h; rfl) | (obtain ⟨_, _, _, rfl, _⟩ := h; rfl) | (obtain ⟨_, _, _, _, rfl, _⟩ := h; rfl) | (obtain ⟨_, _, _, _, _, rfl, _⟩ := h; rfl) | (obtain ⟨_, _, _, _, _, _, rfl, _⟩ := h; rfl) | (obtain ⟨_, _, _, _, _, _, _, rfl, _⟩ := h; rfl) | (obtain ⟨_, _, _, _, _, _, _, _, rfl, _⟩ := h; rfl) | (obtain ⟨_, _, _, _, _, _, _, _, _, rfl, _⟩ := h; rfl)) (fun cdv A outer s H vs Q E hr h => ⟨t_narr K a.C a.WD a.SE a.BO a.WC, ?_, pure_narr T.exWD vs H Q E h⟩)
  exact (pss_cons (ps_set (i := 2) sc_narr.nd rfl (.inl rfl) pe_bl)
      (pss_cons (ps_try_as (i := 3) (tb := t_narrb a.C a.WD) (ts := t_wdc K a.WD a.SE a.BO a.WC 3 2) (Wout := fun _ _ _ _ => False) rfl rfl sc_narr.nd rfl rfl ⟨rfl, by decide, Or.inl T.g_WrongDimension⟩ takes0
      (fun W pn xe tk _ => (pss_one (ps_expr (by exact (pe_methSt (pv 0) T.isa_Order.cl T.m_oarr G_oarr (hr.mono (by decide)) T.b_oarr (fun σ => passAt tk σ) (pa_cons (pv 1) pa_nil))))))
      (fun a0 oe cls d pn hz hf => (pss_one (ps_set (i := 2) sc_narr.nd rfl (.inl rfl) (by exact (pe_and (pe_callB (call_caught T.exWD.cz hz hf) (by rfl) T.n_isinstance (by decide +kernel) (pa_cons (pv 3) (pa_cons (pe_glob rfl T.g_SpotError rfl) pa_nil))) (pe_and (pe_not (pe_callB (call_caught T.exWD.cz hz hf) (by rfl) T.n_isinstance (by decide +kernel) (pa_cons (pv 3) (pa_cons (pe_glob rfl T.g_BadOrder rfl) pa_nil)))) (pe_one (pe_not (pe_callB (call_caught T.exWD.cz hz hf) (by rfl) T.n_isinstance (by decide +kernel) (pa_cons (pv 3) (pa_cons (pe_glob rfl T.g_WrongCount rfl) pa_nil))))))))))))
      (pss_one (ps_ret (pv 2)))))
theorem ok_nprec (T : Txt K mg a) : FnOk P w K mg base CX0 9 a.f_nprec a.d_nprec ["order", "one", "two"] (spNPrec a.C) := by
  have G_oprec := ok_oprec (P := P) (w := w) (base := base) T
  refine T.F_nprec.ok sc_nprec (fun vs H Q E h => by first | (obtain ⟨rfl, _⟩ := h; rfl) | (obtain ⟨_, rfl, _⟩ := h; rfl) | (obtain ⟨_, _, rfl, _⟩ := h; rfl) | (obtain ⟨_, _, _, rfl, _⟩ := h; rfl) | (obtain ⟨_, _, _, _, rfl, _⟩ := h; rfl) | (obtain ⟨_, _, _, _, _, rfl, _⟩ := h; rfl) | (obtain ⟨_, _, _, _, _, _, rfl, _⟩ := h; rfl) | (obtain ⟨_, _, _, _, _, _, _, rfl, _⟩ := h; rfl) | (obtain ⟨_, _, _, _, _, _, _, _, rfl, _⟩ := h; rfl) | (obtain ⟨_, _, _, _, _, _, _, _, _, rfl, _⟩ := h; rfl)) (fun cdv A outer s H vs Q E hr h => ⟨t_nprec K a.C a.WD a.SE a.BO a.WC, ?_, pure_nprec T.exWD vs H Q E h⟩)
  exact (pss_cons (ps_set (i := 3) sc_nprec.nd rfl (.inl rfl) pe_bl)
      (pss_cons (ps_try_as (i := 4) (tb := t_nprecb a.C a.WD) (ts := t_wdc K a.WD a.SE a.BO a.WC 4 3) (Wout := fun _ _ _ _ => False) rfl rfl sc_nprec.nd rfl rfl ⟨rfl, by decide, Or.inl T.g_WrongDimension⟩ takes0
      (fun W pn xe tk _ => (pss_one (ps_expr (by exact (pe_methSt (pv 0) T.isa_Order.cl T.m_oprec G_oprec (hr.mono (by decide)) T.b_oprec (fun σ => passAt tk σ) (pa_cons (pv 1) (pa_cons (pv 2) pa_nil)))))))
      (fun a0 oe cls d pn hz hf => (pss_one (ps_set (i := 3) sc_nprec.nd rfl (.inl rfl) (by exact (pe_and (pe_callB (call_caught T.exWD.cz hz hf) (by rfl) T.n_isinstance (by decide +kernel) (pa_cons (pv 4) (pa_cons (pe_glob rfl T.g_SpotError rfl) pa_nil))) (pe_and (pe_not (pe_callB (call_caught T.exWD.cz hz hf) (by rfl) T.n_isinstance (by decide +kernel) (pa_cons (pv 4) (pa_cons (pe_glob rfl T.g_BadOrder rfl) pa_nil)))) (pe_one (pe_not (pe_callB (call_caught T.exWD.cz hz hf) (by rfl) T.n_isinstance (by decide +kernel) (pa_cons (pv 4) (pa_cons (pe_glob rfl T.g_WrongCount rfl) pa_nil))))))))))))
      (pss_one (ps_ret (pv 3)))))
theorem ok_omade (T : Txt K mg a) : FnOk P w K mg base CX0 10 a.f_omade a.d_omade ["word", "told"] (spOMade a.C) := by
  have G_nord := ok_nord (P := P) (w := w) (base := base) T
  have G_oinit := ok_oinit (P := P) (w := w) (base := base) T
  have G_ois := ok_ois (P := P) (w := w) (base := base) T
  refine T.F_omade.ok sc_omade (fun vs H Q E h => by first | (obtain ⟨rfl, _⟩ := h; rfl) | (obtain ⟨_, rfl, _⟩ := h; rfl) | (obtain ⟨_, _, rfl, _⟩ := h; rfl) | (obtain ⟨_, _, _, rfl, _⟩ := h; rfl) | (obtain ⟨_, _, _, _, rfl, _⟩ := h; rfl) | (obtain ⟨_, _, _, _, _, rfl, _⟩ := h; rfl) | (obtain ⟨_, _, _, _, _, _, rfl, _⟩ := h; rfl) | (obtain ⟨_, _, _, _, _, _, _, rfl, _⟩ := h; rfl) | (obtain ⟨_, _, _, _, _, _, _, _, rfl, _⟩ := h; rfl) | (obtain ⟨_, _, _, _, _, _, _, _, _, rfl, _⟩ := h; rfl)) (fun cdv A outer s H vs Q E hr h => ⟨t_omade K a.C a.WD a.BO a.f_oplace E, ?_, pure_omade vs H Q E h⟩)
  exact (pss_cons (ps_set (i := 2) sc_omade.nd rfl (.inl rfl) (pe_and (pe_cmpR op_in_seq (pv 0) (pe_lst (pa_cons pe_str (pa_cons pe_str pa_nil))) (by rfl)) (pe_one (pe_cmpR op_in_seq (pe_callB call_lenA (by rfl) T.n_len boot_len (pa_cons (pv 1) pa_nil)) (pe_lst (pa_cons pe_int (pa_cons pe_int (pa_cons pe_int pa_nil)))) (by rfl)))))
      (pss_cons (ps_for PassesOwn.never rfl (pi_range1 rfl T.n_range (pa_cons (pe_callB call_lenA (by rfl) T.n_len boot_len (pa_cons (pv 1) pa_nil)) pa_nil)) (pg_name (i := 3) sc_omade.nd rfl (.inl rfl)) (pss_one (ps_set (i := 2) sc_omade.nd rfl (.inl rfl) (pe_and (pv 2) (pe_one (pe_cmpR op_in_seq (pv 3) (pv 1) (by rfl)))))))
      (pss_cons (ps_if (pt_val (pv 2)) (pss_one (ps_ret (pe_and (pe_call G_ois (hr.mono (by decide)) rfl T.g_ois T.k_ois T.b_ois .nil pass0 (pa_cons (pe_make T.mk_Order G_oinit (hr.mono (by decide)) rfl T.g_Order T.b_oinit .nil passL (pa_cons (pv 0) (pa_cons (pv 1) pa_nil))) (pa_cons (pv 0) (pa_cons (pv 1) pa_nil)))) (pe_one (pe_call G_ois (hr.mono (by decide)) rfl T.g_ois T.k_ois T.b_ois .nil pass0 (pa_cons (pe_make T.mk_Order G_oinit (hr.mono (by decide)) rfl T.g_Order T.b_oinit .nil passL (pa_cons (pv 0) (pa_cons (pe_callTy call_tupA (by rfl) T.n_tuple (by decide +kernel) (pa_cons (pv 1) pa_nil)) pa_nil))) (pa_cons (pv 0) (pa_cons (pv 1) pa_nil)))))))) pss_nil)
      (pss_one (ps_ret (pe_and (pe_call G_nord (hr.mono (by decide)) rfl T.g_nord T.k_nord T.b_nord .nil pass0 (pa_cons (pv 0) (pa_cons (pv 1) pa_nil))) (pe_one (pe_call G_nord (hr.mono (by decide)) rfl T.g_nord T.k_nord T.b_nord .nil pass0 (pa_cons (pv 0) (pa_cons (pe_callTy call_tupA (by rfl) T.n_tuple (by decide +kernel) (pa_cons (pv 1) pa_nil)) pa_nil))))))))))
theorem ok_oarrs (T : Txt K mg a) : FnOk P w K mg base CX0 6 a.f_oarrs a.d_oarrs ["order", "kind", "ranking", "places"] (spOArrs a.C) := by
  have G_oarr := ok_oarr (P := P) (w := w) (base := base) T
  have G_oasc := ok_oasc (P := P) (w := w) (base := base) T
  refine T.F_oarrs.ok sc_oarrs (fun vs H Q E h => by first | (obtain ⟨rfl, _⟩ := h; rfl) | (obtain ⟨_, rfl, _⟩ := h; rfl) | (obtain ⟨_, _, rfl, _⟩ := h; rfl) | (obtain ⟨_, _, _, rfl, _⟩ := h; rfl) | (obtain ⟨_, _, _, _, rfl, _⟩ := h; rfl) | (obtain ⟨_, _, _, _, _, rfl, _⟩ := h; rfl) | (obtain ⟨_, _, _, _, _, _, rfl, _⟩ := h; rfl) | (obtain ⟨_, _, _, _, _, _, _, rfl, _⟩ := h; rfl) | (obtain ⟨_, _, _, _, _, _, _, _, rfl, _⟩ := h; rfl) | (obtain ⟨_, _, _, _, _, _, _, _, _, rfl, _⟩ := h; rfl)) (fun cdv A outer s H vs Q E hr h => ⟨t_oarrs K a.C a.WD a.BO a.f_oplace E, ?_, pure_oarrs vs H Q E h⟩)
  exact (pss_cons (ps_set (i := 4) sc_oarrs.nd rfl (.inl rfl) (pe_call G_oasc (hr.mono (by decide)) rfl T.g_oasc T.k_oasc T.b_oasc .nil pass0 (pa_cons (pv 1) (pa_cons (pv 2) (pa_cons (pv 3) pa_nil)))))
      (pss_cons (ps_set (i := 5) sc_oarrs.nd rfl (.inl rfl) (pe_callTy call_listA (by rfl) T.n_list (by decide +kernel) (pa_cons (pv 3) pa_nil)))
      (pss_cons (ps_set (i := 6) sc_oarrs.nd rfl (.inl rfl) (pe_meth (pv 0) T.isa_Order.cl T.m_oarr G_oarr (hr.mono (by decide)) T.b_oarr .nil passL (pa_cons (pv 5) pa_nil)))
      (pss_cons (ps_if (PW.pt (pw_or (pt_not (pt_val (pe_callB call_isB (by rfl) T.n_isinstance (by decide +kernel) (pa_cons (pv 6) (pa_cons (pe_bltn (by rfl) T.n_list (by decide +kernel) rfl) pa_nil))))) (pw_or (pt_cmpR (op_neP hr.units) (pv 6) (pv 4) (nomark _)) (pw_or1 (pt_cmpR (op_neP hr.units) (pv 5) (pv 3) (nomark _)))))) (pss_one (ps_ret pe_bl)) pss_nil)
      (pss_cons (ps_for PassesOwn.never rfl (pi_list (pv 6)) (pg_name (i := 7) sc_oarrs.nd rfl (.inl rfl)) (pss_one (ps_if (pt_not (pt_val (pe_callB call_isB (by rfl) T.n_isinstance (by decide +kernel) (pa_cons (pv 7) (pa_cons (pe_bltn (by rfl) T.n_tuple (by decide +kernel) rfl) pa_nil))))) (pss_one (ps_ret pe_bl)) pss_nil)))
      (pss_cons (ps_expr (pe_bm PySem.F.plainAttrs_list PySem.F.slot_list_append PySem.F.type_list_append mt_append (pv 6) (pa_cons (pe_callTy call_tupA (by rfl) T.n_tuple (by decide +kernel) (pa_cons (pe_op op_rep (pe_lst (pa_cons pe_int pa_nil)) (pe_callB call_lenA (by rfl) T.n_len boot_len (pa_cons (pv 2) pa_nil))) pa_nil)) pa_nil)))
      (pss_cons (ps_expr (pe_bm PySem.F.plainAttrs_list PySem.F.slot_list_append PySem.F.type_list_append mt_append (pv 5) (pa_cons (pe_callTy call_tupA (by rfl) T.n_tuple (by decide +kernel) (pa_cons (pe_op op_rep (pe_lst (pa_cons pe_int pa_nil)) (pe_callB call_lenA (by rfl) T.n_len boot_len (pa_cons (pv 2) pa_nil))) pa_nil)) pa_nil)))
      (pss_cons (ps_set (i := 8) sc_oarrs.nd rfl (.inl rfl) (pe_meth (pv 0) T.isa_Order.cl T.m_oarr G_oarr (hr.mono (by decide)) T.b_oarr .nil passL (pa_cons (pe_callTy call_tupA (by rfl) T.n_tuple (by decide +kernel) (pa_cons (pv 3) pa_nil)) pa_nil)))
      (pss_one (ps_ret (pe_and (pe_callB call_isB (by rfl) T.n_isinstance (by decide +kernel) (pa_cons (pv 8) (pa_cons (pe_bltn (by rfl) T.n_list (by decide +kernel) rfl) pa_nil))) (pe_and (pe_cmpR (op_eqP hr.units) (pv 8) (pv 4) (nomark _)) (pe_one (pe_cmpR (op_eqP hr.units) (pe_meth (pv 0) T.isa_Order.cl T.m_oarr G_oarr (hr.mono (by decide)) T.b_oarr .nil passL (pa_cons (pe_lst pa_nil) pa_nil)) (pe_lst pa_nil) (nomark _)))))))))))))))
theorem ok_ounl (T : Txt K mg a) : FnOk P w K mg base CX0 3 a.f_ounl a.d_ounl ["order", "kind", "ranking"] (spOUnl a.C) := by
  have G_oeq := ok_oeq (P := P) (w := w) (base := base) T
  have G_oinit := ok_oinit (P := P) (w := w) (base := base) T
  have G_says := ok_says (P := P) (w := w) (base := base) T
  refine T.F_ounl.ok sc_ounl (fun vs H Q E h => by first | (obtain ⟨rfl, _⟩ := h; rfl) | (obtain ⟨_, rfl, _⟩ := h; rfl) | (obtain ⟨_, _, rfl, _⟩ := h; rfl) | (obtain ⟨_, _, _, rfl, _⟩ := h; rfl) | (obtain ⟨_, _, _, _, rfl, _⟩ := h; rfl) | (obtain ⟨_, _, _, _, _, rfl, _⟩ := h; rfl) | (obtain ⟨_, _, _, _, _, _, rfl, _⟩ := h; rfl) | (obtain ⟨_, _, _, _, _, _, _, rfl, _⟩ := h; rfl) | (obtain ⟨_, _, _, _, _, _, _, _, rfl, _⟩ := h; rfl) | (obtain ⟨_, _, _, _, _, _, _, _, _, rfl, _⟩ := h; rfl)) (fun cdv A outer s H vs Q E hr h => ⟨t_ounl K a.C a.WD a.BO a.f_oplace E, ?_, pure_ounl vs H Q E h⟩)
  exact (pss_cons (ps_set (i := 3) sc_ounl.nd rfl (.inl rfl) (pe_callB call_lenA (by rfl) T.n_len boot_len (pa_cons (pv 2) pa_nil)))
      (pss_cons (ps_if (pt_not (pt_val (pe_call G_says (hr.mono (by decide)) rfl T.g_says T.k_says T.b_says .nil pass0 (pa_cons (pe_cmpR (cmp_own2 T.o_eq G_oeq (hr.mono (by decide)) T.b_oeq pass0) (pv 0) (pe_make T.mk_Order G_oinit (hr.mono (by decide)) rfl T.g_Order T.b_oinit .nil passL (pa_cons (pv 1) (pa_cons (pe_callTy call_tupA (by rfl) T.n_tuple (by decide +kernel) (pa_cons (pv 2) pa_nil)) pa_nil))) (nomark _)) (pa_cons pe_bl pa_nil))))) (pss_one (ps_ret pe_bl)) pss_nil)
      (pss_cons (ps_if (pt_not (pt_val (pe_call G_says (hr.mono (by decide)) rfl T.g_says T.k_says T.b_says .nil pass0 (pa_cons (pe_cmpR (cmp_own2 T.o_eq G_oeq (hr.mono (by decide)) T.b_oeq pass0) (pv 0) (pe_make T.mk_Order G_oinit (hr.mono (by decide)) rfl T.g_Order T.b_oinit .nil passL (pa_cons (pv 1) (pa_cons (pe_callTy (call_listR rfl) (by rfl) T.n_list (by decide +kernel) (pa_cons (pe_callTy cr_rangeV (by rfl) T.n_range (by decide +kernel) (pa_cons (pe_op op_add pe_int (pe_op op_mod (pe_callTy call_int1 (by rfl) T.n_int (by decide +kernel) (pa_cons (pv 3) pa_nil)) pe_int)) pa_nil)) pa_nil)) pa_nil))) (nomark _)) (pa_cons pe_bl pa_nil))))) (pss_one (ps_ret pe_bl)) pss_nil)
      (pss_cons (ps_set (i := 4) sc_ounl.nd rfl (.inl rfl) pe_str)
      (pss_cons (ps_if (pt_cmpR op_eq (pv 1) pe_str (nomark _)) (pss_one (ps_set (i := 4) sc_ounl.nd rfl (.inl rfl) pe_str)) pss_nil)
      (pss_cons (ps_if (pt_not (pt_val (pe_call G_says (hr.mono (by decide)) rfl T.g_says T.k_says T.b_says .nil pass0 (pa_cons (pe_cmpR (cmp_own2 T.o_eq G_oeq (hr.mono (by decide)) T.b_oeq pass0) (pv 0) (pe_make T.mk_Order G_oinit (hr.mono (by decide)) rfl T.g_Order T.b_oinit .nil passL (pa_cons (pv 4) (pa_cons (pe_callTy call_listA (by rfl) T.n_list (by decide +kernel) (pa_cons (pv 2) pa_nil)) pa_nil))) (nomark _)) (pa_cons pe_bl pa_nil))))) (pss_one (ps_ret pe_bl)) pss_nil)
      (pss_cons (ps_if (pt_cmpR op_eq (pv 3) pe_int (nomark _)) (pss_one (ps_ret pe_bl)) pss_nil)
      (pss_one (ps_ret (pe_call G_says (hr.mono (by decide)) rfl T.g_says T.k_says T.b_says .nil pass0 (pa_cons (pe_cmpR (cmp_own2 T.o_eq G_oeq (hr.mono (by decide)) T.b_oeq pass0) (pv 0) (pe_make T.mk_Order G_oinit (hr.mono (by decide)) rfl T.g_Order T.b_oinit .nil passL (pa_cons (pv 1) (pa_cons (pe_op op_cat (pe_slice sl_A (pv 2) (po_some pe_int) po_none) (pe_slice sl_A (pv 2) po_none (po_some pe_int))) pa_nil))) (nomark _)) (pa_cons pe_bl pa_nil))))))))))))
theorem ok_olaw (T : Txt K mg a) : FnOk P w K mg base CX0 13 a.f_olaw a.d_olaw ["script"] (spLaw K) := by
  have G_before := ok_before (P := P) (w := w) (base := base) T
  have G_narr := ok_narr (P := P) (w := w) (base := base) T
  have G_nprec := ok_nprec (P := P) (w := w) (base := base) T
  have G_oarrs := ok_oarrs (P := P) (w := w) (base := base) T
  have G_oearl := ok_oearl (P := P) (w := w) (base := base) T
  have G_oinit := ok_oinit (P := P) (w := w) (base := base) T
  have G_ois := ok_ois (P := P) (w := w) (base := base) T
  have G_omade := ok_omade (P := P) (w := w) (base := base) T
  have G_onear := ok_onear (P := P) (w := w) (base := base) T
  have G_oprec := ok_oprec (P := P) (w := w) (base := base) T
  have G_orank := ok_orank (P := P) (w := w) (base := base) T
  have G_ounl := ok_ounl (P := P) (w := w) (base := base) T
  have G_oword := ok_oword (P := P) (w := w) (base := base) T
  have G_pool := ok_pool (P := P) (w := w) (base := base) T
  have G_says := ok_says (P := P) (w := w) (base := base) T
  have G_take := ok_take (P := P) (w := w) (base := base) T
  refine T.F_olaw.ok sc_olaw (fun vs H Q E h => by first | (obtain ⟨rfl, _⟩ := h; rfl) | (obtain ⟨_, rfl, _⟩ := h; rfl) | (obtain ⟨_, _, rfl, _⟩ := h; rfl) | (obtain ⟨_, _, _, rfl, _⟩ := h; rfl) | (obtain ⟨_, _, _, _, rfl, _⟩ := h; rfl) | (obtain ⟨_, _, _, _, _, rfl, _⟩ := h; rfl) | (obtain ⟨_, _, _, _, _, _, rfl, _⟩ := h; rfl) | (obtain ⟨_, _, _, _, _, _, _, rfl, _⟩ := h; rfl) | (obtain ⟨_, _, _, _, _, _, _, _, rfl, _⟩ := h; rfl) | (obtain ⟨_, _, _, _, _, _, _, _, _, rfl, _⟩ := h; rfl)) (fun cdv A outer s H vs Q E hr h => ⟨t_olaw K a.C a.WD a.BO a.f_oplace E, ?_, pure_olaw vs H Q E h⟩)
  exact (pss_cons (ps_set (i := 1) sc_olaw.nd rfl (.inr rfl) (pe_call G_pool (hr.mono (by decide)) rfl T.g_pool T.k_pool T.b_pool .nil pass0 (pa_cons (pv 0) pa_nil)))
      (pss_cons (ps_set (i := 2) sc_olaw.nd rfl (.inl rfl) (pe_op op_add pe_int (pe_call G_take (hr.mono (by decide)) rfl T.g_take T.k_take T.b_take .nil pass0 (pa_cons (pv 1) (pa_cons pe_int pa_nil)))))
      (pss_cons (ps_set (i := 3) sc_olaw.nd rfl (.inl rfl) (pe_ix ix_1 (pe_lst (pa_cons pe_str (pa_cons pe_str pa_nil))) (pe_call G_take (hr.mono (by decide)) rfl T.g_take T.k_take T.b_take .nil pass0 (pa_cons (pv 1) (pa_cons pe_int pa_nil))) (fun _ _ => rfl)))
      (pss_cons (ps_set (i := 4) sc_olaw.nd rfl (.inl rfl) (pe_call G_orank (hr.mono (by decide)) rfl T.g_orank T.k_orank T.b_orank .nil pass0 (pa_cons (pv 1) (pa_cons (pv 2) pa_nil))))
      (pss_cons (ps_set (i := 5) sc_olaw.nd rfl (.inl rfl) (pe_callTy call_listA (by rfl) T.n_list (by decide +kernel) (pa_cons (pv 4) pa_nil)))
      (pss_cons (ps_set (i := 6) sc_olaw.nd rfl (.inl rfl) (pe_make T.mk_Order G_oinit (hr.mono (by decide)) rfl T.g_Order T.b_oinit .nil passL (pa_cons (pv 3) (pa_cons (pv 5) pa_nil))))
      (pss_cons (ps_asg (pe_op op_sub pe_int (pe_ix ix_1 (pv 5) pe_int (fun _ _ => rfl))) (pg_sub (pv 5) pe_int set_list))
      (pss_cons (ps_expr (pe_bm PySem.F.plainAttrs_list PySem.F.slot_list_append PySem.F.type_list_append mt_append (pv 5) (pa_cons pe_int pa_nil)))
      (pss_cons (ps_set (i := 7) sc_olaw.nd rfl (.inl rfl) (pe_callTy call_tupA (by rfl) T.n_tuple (by decide +kernel) (pa_cons (pe_op op_rep (pe_lst (pa_cons pe_int pa_nil)) (pv 2)) pa_nil)))
      (pss_cons (ps_set (i := 8) sc_olaw.nd rfl (.inr rfl) (pe_call G_onear (hr.mono (by decide)) rfl T.g_onear T.k_onear T.b_onear .nil pass0 (pa_cons (pv 1) (pa_cons (pv 7) pa_nil))))
      (pss_cons (ps_set (i := 9) sc_olaw.nd rfl (.inr rfl) (pe_call G_onear (hr.mono (by decide)) rfl T.g_onear T.k_onear T.b_onear .nil pass0 (pa_cons (pv 1) (pa_cons (pv 8) pa_nil))))
      (pss_cons (ps_set (i := 10) sc_olaw.nd rfl (.inr rfl) (pe_call G_onear (hr.mono (by decide)) rfl T.g_onear T.k_onear T.b_onear .nil pass0 (pa_cons (pv 1) (pa_cons (pv 9) pa_nil))))
      (pss_cons (ps_set (i := 11) sc_olaw.nd rfl (.inl rfl) (pe_callTy call_tupA (by rfl) T.n_tuple (by decide +kernel) (pa_cons (pe_lc (own := [("k", 16)]) (g := (gName 16)) (tt := tYes) (by rfl) sc_olaw.nd (pi_range1 rfl T.n_range (pa_cons (pv 2) pa_nil)) (blkOk_by (own := [("k", 16)]) (N := ["script", "pool", "dimension", "kind", "ranking", "handed", "order", "unit", "one", "two", "factor", "more", "last", "pair", "places", "before", "k", "told", "at", "wrong", "standard"]) (sc := defScope s_olaw) (by decide +kernel)) (fun _ _ _ _ _ => (pg_name (i := 16) sc_olaw.nd rfl (.inl rfl))) (fun _ _ _ _ _ => pts_nil) (fun _ _ _ _ _ => (pe_op op_add (pe_ix ix_1 (pv 8) (pv 16) (fun _ _ => rfl)) (pe_ix ix_1 (pv 10) (pv 16) (fun _ _ => rfl))))) pa_nil)))
      (pss_cons (ps_set (i := 12) sc_olaw.nd rfl (.inl rfl) (pe_callTy call_tupA (by rfl) T.n_tuple (by decide +kernel) (pa_cons (pe_lc (own := [("k", 16)]) (g := (gName 16)) (tt := tYes) (by rfl) sc_olaw.nd (pi_range1 rfl T.n_range (pa_cons (pv 2) pa_nil)) (blkOk_by (own := [("k", 16)]) (N := ["script", "pool", "dimension", "kind", "ranking", "handed", "order", "unit", "one", "two", "factor", "more", "last", "pair", "places", "before", "k", "told", "at", "wrong", "standard"]) (sc := defScope s_olaw) (by decide +kernel)) (fun _ _ _ _ _ => (pg_name (i := 16) sc_olaw.nd rfl (.inl rfl))) (fun _ _ _ _ _ => pts_nil) (fun _ _ _ _ _ => (pe_op op_add (pe_ix ix_1 (pv 9) (pv 16) (fun _ _ => rfl)) (pe_ix ix_1 (pv 10) (pv 16) (fun _ _ => rfl))))) pa_nil)))
      (pss_cons (ps_if (PW.pt (pw_or (pt_not (pt_val (pe_call G_ois (hr.mono (by decide)) rfl T.g_ois T.k_ois T.b_ois .nil pass0 (pa_cons (pv 6) (pa_cons (pv 3) (pa_cons (pv 4) pa_nil)))))) (pw_or1 (pt_not (pt_val (pe_call G_ounl (hr.mono (by decide)) rfl T.g_ounl T.k_ounl T.b_ounl .nil pass0 (pa_cons (pv 6) (pa_cons (pv 3) (pa_cons (pv 4) pa_nil))))))))) (pss_one (ps_ret pe_bl)) pss_nil)
      (pss_cons (ps_for PassesOwn.never rfl (pi_list (pe_lst (pa_cons (pe_tup (pa_cons (pv 8) (pa_cons (pv 9) pa_nil))) (pa_cons (pe_tup (pa_cons (pv 9) (pa_cons (pv 8) pa_nil))) (pa_cons (pe_tup (pa_cons (pv 8) (pa_cons (pv 8) pa_nil))) (pa_cons (pe_tup (pa_cons (pv 11) (pa_cons (pv 12) pa_nil))) (pa_cons (pe_tup (pa_cons (pv 12) (pa_cons (pv 11) pa_nil))) (pa_cons (pe_tup (pa_cons (pv 7) (pa_cons (pv 8) pa_nil))) (pa_cons (pe_tup (pa_cons (pv 8) (pa_cons (pv 7) pa_nil))) pa_nil))))))))) (pg_name (i := 13) sc_olaw.nd rfl (.inl rfl)) (pss_cons (ps_if (pt_not (pt_val (pe_call G_says (hr.mono (by decide)) rfl T.g_says T.k_says T.b_says .nil pass0 (pa_cons (pe_meth (pv 6) T.isa_Order.cl T.m_oprec G_oprec (hr.mono (by decide)) T.b_oprec .nil passL (pa_cons (pe_ix ix_1 (pv 13) pe_int (fun _ _ => rfl)) (pa_cons (pe_ix ix_1 (pv 13) pe_int (fun _ _ => rfl)) pa_nil))) (pa_cons (pe_call G_oearl (hr.mono (by decide)) rfl T.g_oearl T.k_oearl T.b_oearl .nil pass0 (pa_cons (pv 3) (pa_cons (pv 4) (pa_cons (pe_ix ix_1 (pv 13) pe_int (fun _ _ => rfl)) (pa_cons (pe_ix ix_1 (pv 13) pe_int (fun _ _ => rfl)) pa_nil))))) pa_nil))))) (pss_one (ps_ret pe_bl)) pss_nil)
      (pss_cons (ps_set (i := 20) sc_olaw.nd rfl (.inl rfl) (pe_call G_oearl (hr.mono (by decide)) rfl T.g_oearl T.k_oearl T.b_oearl .nil pass0 (pa_cons pe_str (pa_cons (pe_callTy (call_listR rfl) (by rfl) T.n_list (by decide +kernel) (pa_cons (pe_callTy cr_rangeV (by rfl) T.n_range (by decide +kernel) (pa_cons (pv 2) pa_nil)) pa_nil)) (pa_cons (pe_ix ix_1 (pv 13) pe_int (fun _ _ => rfl)) (pa_cons (pe_ix ix_1 (pv 13) pe_int (fun _ _ => rfl)) pa_nil))))))
      (pss_one (ps_if (pt_not (pt_val (pe_call G_says (hr.mono (by decide)) rfl T.g_says T.k_says T.b_says .nil pass0 (pa_cons (pe_call G_before (hr.mono (by decide)) rfl T.g_before T.k_before T.b_before .nil passL (pa_cons (pe_ix ix_1 (pv 13) pe_int (fun _ _ => rfl)) (pa_cons (pe_ix ix_1 (pv 13) pe_int (fun _ _ => rfl)) pa_nil))) (pa_cons (pv 20) pa_nil))))) (pss_one (ps_ret pe_bl)) pss_nil)))))
      (pss_cons (ps_if (PW.pt (pw_or (pt_cmpR op_ne (pe_meth (pv 6) T.isa_Order.cl T.m_oprec G_oprec (hr.mono (by decide)) T.b_oprec .nil passL (pa_cons (pv 8) (pa_cons (pv 9) pa_nil))) (pe_meth (pv 6) T.isa_Order.cl T.m_oprec G_oprec (hr.mono (by decide)) T.b_oprec .nil passL (pa_cons (pv 11) (pa_cons (pv 12) pa_nil))) (nomark _)) (pw_or1 (pt_cmpR op_eq (pe_meth (pv 6) T.isa_Order.cl T.m_oprec G_oprec (hr.mono (by decide)) T.b_oprec .nil passL (pa_cons (pv 7) (pa_cons (pv 9) pa_nil))) (pe_cmpR (op_eqP hr.units) (pv 9) (pv 7) (nomark _)) (nomark _))))) (pss_one (ps_ret pe_bl)) pss_nil)
      (pss_cons (ps_set (i := 14) sc_olaw.nd rfl (.inl rfl) (pe_lst pa_nil))
      (pss_cons (ps_set (i := 15) sc_olaw.nd rfl (.inl rfl) (pv 8))
      (pss_cons (ps_for PassesOwn.never rfl (pi_range1 rfl T.n_range (pa_cons (pe_call G_take (hr.mono (by decide)) rfl T.g_take T.k_take T.b_take .nil pass0 (pa_cons (pv 1) (pa_cons pe_int pa_nil))) pa_nil)) (pg_name (i := 16) sc_olaw.nd rfl (.inl rfl)) (pss_cons (ps_set (i := 15) sc_olaw.nd rfl (.inl rfl) (pe_call G_onear (hr.mono (by decide)) rfl T.g_onear T.k_onear T.b_onear .nil pass0 (pa_cons (pv 1) (pa_cons (pv 15) pa_nil))))
      (pss_one (ps_if (pt_cmpR (op_notInP hr.units) (pv 15) (pv 14) (by rfl)) (pss_one (ps_expr (pe_bm PySem.F.plainAttrs_list PySem.F.slot_list_append PySem.F.type_list_append mt_append (pv 14) (pa_cons (pv 15) pa_nil)))) pss_nil))))
      (pss_cons (ps_if (pt_cmpR op_gt (pe_callB call_lenA (by rfl) T.n_len boot_len (pa_cons (pv 14) pa_nil)) pe_int (nomark _)) (pss_one (ps_expr (pe_bm PySem.F.plainAttrs_list PySem.F.slot_list_append PySem.F.type_list_append mt_append (pv 14) (pa_cons (pe_ix ix_1 (pv 14) pe_int (fun _ _ => rfl)) pa_nil)))) pss_nil)
      (pss_cons (ps_if (pt_not (pt_val (pe_call G_oarrs (hr.mono (by decide)) rfl T.g_oarrs T.k_oarrs T.b_oarrs .nil pass0 (pa_cons (pv 6) (pa_cons (pv 3) (pa_cons (pv 4) (pa_cons (pv 14) pa_nil))))))) (pss_one (ps_ret pe_bl)) pss_nil)
      (pss_cons (ps_setLc (i := 17) (own := [("k", 16)]) (g := (gName 16)) (tt := tYes) (by rfl) sc_olaw.nd rfl rfl (sw_true rfl rfl rfl (by decide +kernel)) (pi_range1 rfl T.n_range (pa_cons (pe_call G_take (hr.mono (by decide)) rfl T.g_take T.k_take T.b_take .nil pass0 (pa_cons (pv 1) (pa_cons pe_int pa_nil))) pa_nil)) (blkOk_by (own := [("k", 16)]) (N := ["script", "pool", "dimension", "kind", "ranking", "handed", "order", "unit", "one", "two", "factor", "more", "last", "pair", "places", "before", "k", "told", "at", "wrong", "standard"]) (sc := defScope s_olaw) (by decide +kernel)) (fun _ _ _ _ _ => (pg_name (i := 16) sc_olaw.nd rfl (.inl rfl))) (fun _ _ _ _ _ => pts_nil) (fun _ _ _ _ _ => (pe_op op_sub (pe_call G_take (hr.mono (by decide)) rfl T.g_take T.k_take T.b_take .nil pass0 (pa_cons (pv 1) (pa_cons pe_int pa_nil))) pe_int)))
      (pss_cons (ps_if (PW.pt (pw_or (pt_not (pt_val (pe_call G_omade (hr.mono (by decide)) rfl T.g_omade T.k_omade T.b_omade .nil pass0 (pa_cons (pe_call G_oword (hr.mono (by decide)) rfl T.g_oword T.k_oword T.b_oword .nil pass0 (pa_cons (pv 1) pa_nil)) (pa_cons (pv 17) pa_nil))))) (pw_or1 (pt_not (pt_val (pe_call G_omade (hr.mono (by decide)) rfl T.g_omade T.k_omade T.b_omade .nil pass0 (pa_cons (pv 3) (pa_cons (pv 17) pa_nil)))))))) (pss_one (ps_ret pe_bl)) pss_nil)
      (pss_cons (ps_set (i := 18) sc_olaw.nd rfl (.inl rfl) (pe_call G_take (hr.mono (by decide)) rfl T.g_take T.k_take T.b_take .nil pass0 (pa_cons (pv 1) (pa_cons (pe_op op_add (pe_callB call_lenA (by rfl) T.n_len boot_len (pa_cons (pv 14) pa_nil)) pe_int) pa_nil))))
      (pss_cons (ps_set (i := 19) sc_olaw.nd rfl (.inl rfl) (pe_op op_catT (pv 9) (pe_tup (pa_cons pe_int pa_nil))))
      (pss_cons (ps_if (PW.pt (pw_and (pt_cmpR op_gt (pv 2) pe_int (nomark _)) (pw_and1 (pt_cmpR op_eq (pe_call G_take (hr.mono (by decide)) rfl T.g_take T.k_take T.b_take .nil pass0 (pa_cons (pv 1) (pa_cons pe_int pa_nil))) pe_int (nomark _))))) (pss_one (ps_set (i := 19) sc_olaw.nd rfl (.inl rfl) (pe_slice sl_tup (pv 9) (po_some pe_int) po_none))) pss_nil)
      (pss_cons (ps_if (PW.pt (pw_or (pt_not (pt_val (pe_call G_nprec (hr.mono (by decide)) rfl T.g_nprec T.k_nprec T.b_nprec .nil pass0 (pa_cons (pv 6) (pa_cons (pv 19) (pa_cons (pv 8) pa_nil)))))) (pw_or1 (pt_not (pt_val (pe_call G_nprec (hr.mono (by decide)) rfl T.g_nprec T.k_nprec T.b_nprec .nil pass0 (pa_cons (pv 6) (pa_cons (pv 8) (pa_cons (pv 19) pa_nil))))))))) (pss_one (ps_ret pe_bl)) pss_nil)
      (pss_one (ps_ret (pe_call G_narr (hr.mono (by decide)) rfl T.g_narr T.k_narr T.b_narr .nil pass0 (pa_cons (pv 6) (pa_cons (pe_op op_cat (pe_op op_cat (pe_slice sl_A (pv 14) po_none (po_some (pv 18))) (pe_lst (pa_cons (pv 19) pa_nil))) (pe_slice sl_A (pv 14) (po_some (pv 18)) po_none)) pa_nil)))))))))))))))))))))))))))))))))
end
end SpX

set_option Elab.async false
set_option linter.all false
set_option maxRecDepth 100000
set_option maxHeartbeats 4000000
namespace SpX
open PySem PySem.Spec L2 StX RZ
theorem kit_ref {K : PySem.W.Frag} {t : Value} {c : Addr} {b : Bool} (ne : t ≠ .ref c) (hd : PySem.W.hasDictIn K c = true) (ht : PySem.W.typeIn K (.ref c) = some (.type "type")) (hs : PySem.W.subIn K t (.ref c) = some b) : PySem.W.kitOne K t (.ref c) = some b := by
  obtain ⟨cd, hc, _⟩ := PySem.W.any_some hd
  have e1 : (t == Value.ref c) = false := Bool.eq_false_iff.mpr fun q => ne (beq_iff_eq.mp q)
  have e2 : ((PySem.W.clsIn K c).isSome && PySem.W.typeIn K (.ref c) == some (.type "type")) = true := by rw [hc, ht] <;> rfl
  unfold PySem.W.kitOne PySem.W.kitCls
  rw [e1, if_neg (by decide)]
  show (if ((PySem.W.clsIn K c).isSome && PySem.W.typeIn K (.ref c) == some (.type "type")) = true then PySem.W.subIn K t (.ref c) else none) = some b
  rw [if_pos e2]
  exact hs
theorem kit_tyr {K : PySem.W.Frag} {c : Addr} {T : String} {b : Bool} (hm : PySem.W.kitMeta T = true) (hs : PySem.W.subIn K (.ref c) (.type T) = some b) : PySem.W.kitOne K (.ref c) (.type T) = some b := by
  have e1 : (Value.ref c == Value.type T) = false := Bool.eq_false_iff.mpr fun q => by cases beq_iff_eq.mp q
  unfold PySem.W.kitOne PySem.W.kitCls
  rw [e1, if_neg (by decide)]
  show (if PySem.W.kitMeta T = true then PySem.W.subIn K (.ref c) (.type T) else none) = some b
  rw [if_pos hm]
  exact hs
theorem kit_other {K : PySem.W.Frag} {z c : Addr} (hz : PySem.W.subIn K (.ref z) (.ref z) = some true) (hs : PySem.W.subIn K (.ref z) (.ref c) = some false) (hd : PySem.W.hasDictIn K c = true) (ht : PySem.W.typeIn K (.ref c) = some (.type "type")) : PySem.W.kitOne K (.ref z) (.ref c) = some false :=
  kit_ref (fun e => by
    cases e
    rw [hz] at hs
    cases hs) hd ht hs

theorem kit_true {K : PySem.W.Frag} {z c : Addr} (hz : PySem.W.subIn K (.ref z) (.ref z) = some true) (hc : PySem.W.subIn K (.ref c) (.ref z) = some false) (hs : PySem.W.subIn K (.ref z) (.ref c) = some true) (hd : PySem.W.hasDictIn K c = true) (ht : PySem.W.typeIn K (.ref c) = some (.type "type")) : PySem.W.kitOne K (.ref z) (.ref c) = some true :=
  kit_ref (fun e => by
    cases e
    rw [hz] at hc
    cases hc) hd ht hs
theorem all_mk {P : Program} {w : World} {K : PySem.W.Frag} {h : Heap} {mg : Str → Option Value} {fa C BO WD BT BI WC SE : Addr} {tkDIMENSIONS tkBY_DEGREE tkBY_VARIABLES : Tok}
    {f_pool : Addr} {od_pool an_pool : Option Addr} {sl_pool : Array (Option Value)} {oc_pool kV_pool dc_pool pm_pool cd_pool ct_pool : Value}
    {f_take : Addr} {od_take an_take : Option Addr} {sl_take : Array (Option Value)} {oc_take kV_take dc_take pm_take cd_take ct_take : Value}
    {f_integer : Addr} {od_integer an_integer : Option Addr} {sl_integer : Array (Option Value)} {oc_integer kV_integer dc_integer pm_integer cd_integer ct_integer : Value}
    {f_chk : Addr} {od_chk an_chk : Option Addr} {sl_chk : Array (Option Value)} {oc_chk kV_chk dc_chk pm_chk cd_chk ct_chk : Value}
    {f_chke : Addr} {od_chke an_chke : Option Addr} {sl_chke : Array (Option Value)} {oc_chke kV_chke dc_chke pm_chke cd_chke ct_chke : Value}
    {f_place : Addr} {od_place an_place : Option Addr} {sl_place : Array (Option Value)} {oc_place kV_place dc_place pm_place cd_place ct_place : Value}
    {f_pair : Addr} {od_pair an_pair : Option Addr} {sl_pair : Array (Option Value)} {oc_pair kV_pair dc_pair pm_pair cd_pair ct_pair : Value}
    {f_before : Addr} {od_before an_before : Option Addr} {sl_before : Array (Option Value)} {oc_before kV_before dc_before pm_before cd_before ct_before : Value}
    {f_oinit : Addr} {od_oinit an_oinit : Option Addr} {sl_oinit : Array (Option Value)} {oc_oinit kV_oinit dc_oinit pm_oinit cd_oinit ct_oinit : Value}
    {f_oplace : Addr} {od_oplace an_oplace : Option Addr} {sl_oplace : Array (Option Value)} {oc_oplace kV_oplace dc_oplace pm_oplace cd_oplace ct_oplace : Value}
    {f_oprec : Addr} {od_oprec an_oprec : Option Addr} {sl_oprec : Array (Option Value)} {oc_oprec kV_oprec dc_oprec pm_oprec cd_oprec ct_oprec : Value}
    {f_oarr : Addr} {od_oarr an_oarr : Option Addr} {sl_oarr : Array (Option Value)} {oc_oarr kV_oarr dc_oarr pm_oarr cd_oarr ct_oarr : Value}
    {f_oeq : Addr} {od_oeq an_oeq : Option Addr} {sl_oeq : Array (Option Value)} {oc_oeq kV_oeq dc_oeq pm_oeq cd_oeq ct_oeq : Value}
    {f_omons : Addr} {od_omons an_omons : Option Addr} {sl_omons : Array (Option Value)} {oc_omons kV_omons dc_omons pm_omons cd_omons ct_omons : Value}
    {f_orank : Addr} {od_orank an_orank : Option Addr} {sl_orank : Array (Option Value)} {oc_orank kV_orank dc_orank pm_orank cd_orank ct_orank : Value}
    {f_onear : Addr} {od_onear an_onear : Option Addr} {sl_onear : Array (Option Value)} {oc_onear kV_onear dc_onear pm_onear cd_onear ct_onear : Value}
    {f_oword : Addr} {od_oword an_oword : Option Addr} {sl_oword : Array (Option Value)} {oc_oword kV_oword dc_oword pm_oword cd_oword ct_oword : Value}
    {f_oearl : Addr} {od_oearl an_oearl : Option Addr} {sl_oearl : Array (Option Value)} {oc_oearl kV_oearl dc_oearl pm_oearl cd_oearl ct_oearl : Value}
    {f_oasc : Addr} {od_oasc an_oasc : Option Addr} {sl_oasc : Array (Option Value)} {oc_oasc kV_oasc dc_oasc pm_oasc cd_oasc ct_oasc : Value}
    {f_says : Addr} {od_says an_says : Option Addr} {sl_says : Array (Option Value)} {oc_says kV_says dc_says pm_says cd_says ct_says : Value}
    {f_ois : Addr} {od_ois an_ois : Option Addr} {sl_ois : Array (Option Value)} {oc_ois kV_ois dc_ois pm_ois cd_ois ct_ois : Value}
    {f_nord : Addr} {od_nord an_nord : Option Addr} {sl_nord : Array (Option Value)} {oc_nord kV_nord dc_nord pm_nord cd_nord ct_nord : Value}
    {f_narr : Addr} {od_narr an_narr : Option Addr} {sl_narr : Array (Option Value)} {oc_narr kV_narr dc_narr pm_narr cd_narr ct_narr : Value}
    {f_nprec : Addr} {od_nprec an_nprec : Option Addr} {sl_nprec : Array (Option Value)} {oc_nprec kV_nprec dc_nprec pm_nprec cd_nprec ct_nprec : Value}
    {f_omade : Addr} {od_omade an_omade : Option Addr} {sl_omade : Array (Option Value)} {oc_omade kV_omade dc_omade pm_omade cd_omade ct_omade : Value}
    {f_oarrs : Addr} {od_oarrs an_oarrs : Option Addr} {sl_oarrs : Array (Option Value)} {oc_oarrs kV_oarrs dc_oarrs pm_oarrs cd_oarrs ct_oarrs : Value}
    {f_ounl : Addr} {od_ounl an_ounl : Option Addr} {sl_ounl : Array (Option Value)} {oc_ounl kV_ounl dc_ounl pm_ounl cd_ounl ct_ounl : Value}
    {f_olaw : Addr} {od_olaw an_olaw : Option Addr} {sl_olaw : Array (Option Value)} {oc_olaw kV_olaw dc_olaw pm_olaw cd_olaw ct_olaw : Value}
    (X : K.In h) (G : h.Ns mainGlobals mg) (hfa : mg "law" = some (.ref fa))
    (gC : PySem.W.nsIn K mainGlobals "Order" = some (some (.ref C)))
    (gBO : PySem.W.nsIn K mainGlobals "BadOrder" = some (some (.ref BO)))
    (gWD : PySem.W.nsIn K mainGlobals "WrongDimension" = some (some (.ref WD)))
    (gBT : PySem.W.nsIn K mainGlobals "BadText" = some (some (.ref BT)))
    (gBI : PySem.W.nsIn K mainGlobals "BadIndex" = some (some (.ref BI)))
    (gWC : PySem.W.nsIn K mainGlobals "WrongCount" = some (some (.ref WC)))
    (gSE : PySem.W.nsIn K mainGlobals "SpotError" = some (some (.ref SE)))
    (n_len : PySem.W.nsIn K mainGlobals "len" = some none)
    (n_abs : PySem.W.nsIn K mainGlobals "abs" = some none)
    (n_int : PySem.W.nsIn K mainGlobals "int" = some none)
    (n_list : PySem.W.nsIn K mainGlobals "list" = some none)
    (n_bool : PySem.W.nsIn K mainGlobals "bool" = some none)
    (n_isinstance : PySem.W.nsIn K mainGlobals "isinstance" = some none)
    (n_range : PySem.W.nsIn K mainGlobals "range" = some none)
    (n_ValueError : PySem.W.nsIn K mainGlobals "ValueError" = some none)
    (n_str : PySem.W.nsIn K mainGlobals "str" = some none)
    (n_tuple : PySem.W.nsIn K mainGlobals "tuple" = some none)
    (n_sum : PySem.W.nsIn K mainGlobals "sum" = some none)
    (n_sorted : PySem.W.nsIn K mainGlobals "sorted" = some none)
    (cDIMENSIONS : PySem.W.nsIn K mainGlobals "DIMENSIONS" = some (some (.int 3 tkDIMENSIONS)))
    (cBY_DEGREE : PySem.W.nsIn K mainGlobals "BY_DEGREE" = some (some (.str "degree" tkBY_DEGREE)))
    (cBY_VARIABLES : PySem.W.nsIn K mainGlobals "BY_VARIABLES" = some (some (.str "variables" tkBY_VARIABLES)))
    (pg : PySem.W.plainGet K C Str.empty = true)
    (hd : PySem.W.hasDictIn K C = true)
    (po : PySem.W.plainOver K C = true)
    (sa : PySem.W.findIn K (.ref C) "__setattr__" = some (some (.builtin "object.__setattr__")))
    (ca : PySem.W.findIn K (.ref C) "__class__" = some (some (.builtin "object.__class__")))
    (cn : PySem.W.specialIn K (.builtin "object.__class__") "__get__" = some (some (.builtin "getset_descriptor.__get__")))
    (ct : PySem.W.takesIn K (.builtin "object.__class__") = some true)
    (cm : PySem.W.mroIn K C (.type "object") = some true)
    (tC : PySem.W.typeIn K (.ref C) = some (.type "type"))
    (na_kind : PySem.W.findIn K (.ref C) "kind" = some none)
    (na_ranking : PySem.W.findIn K (.ref C) "ranking" = some none)
    (na_dimension : PySem.W.findIn K (.ref C) "dimension" = some none)
    (mk : PySem.W.makesIn K C = true)
    (kC : PySem.W.keepIn K (.ref C) = true)
    (su1 : PySem.W.subIn K (.type "int") (.ref C) = some false)
    (su2 : PySem.W.subIn K (.ref C) (.type "int") = some false)
    (xBO : PySem.W.excIn K BO [.type "ValueError", .type "Exception", .type "BaseException", .type "object"] "ValueError.__new__" = true)
    (kBO : PySem.W.keepIn K (.ref BO) = true)
    (bBO : PySem.W.subIn K (.ref BO) (.type "BaseException") = some true)
    (zgBO : PySem.W.findIn K (.ref BO) "__getattribute__" = some (some (.builtin "BaseException.__getattribute__")))
    (zkBO : PySem.W.findIn K (.ref BO) "__getattr__" = some none)
    (zaBO : PySem.W.findIn K (.ref BO) "__class__" = some (some (.builtin "object.__class__")))
    (zmBO : PySem.W.mroIn K BO (.type "object") = some true)
    (veBO : PySem.W.subIn K (.ref BO) (.type "ValueError") = some true)
    (zzBO : PySem.W.subIn K (.ref BO) (.ref BO) = some true)
    (xWD : PySem.W.excIn K WD [.type "ValueError", .type "Exception", .type "BaseException", .type "object"] "ValueError.__new__" = true)
    (kWD : PySem.W.keepIn K (.ref WD) = true)
    (bWD : PySem.W.subIn K (.ref WD) (.type "BaseException") = some true)
    (zgWD : PySem.W.findIn K (.ref WD) "__getattribute__" = some (some (.builtin "BaseException.__getattribute__")))
    (zkWD : PySem.W.findIn K (.ref WD) "__getattr__" = some none)
    (zaWD : PySem.W.findIn K (.ref WD) "__class__" = some (some (.builtin "object.__class__")))
    (zmWD : PySem.W.mroIn K WD (.type "object") = some true)
    (veWD : PySem.W.subIn K (.ref WD) (.type "ValueError") = some true)
    (zzWD : PySem.W.subIn K (.ref WD) (.ref WD) = some true)
    (dBO : PySem.W.hasDictIn K BO = true)
    (tBO : PySem.W.typeIn K (.ref BO) = some (.type "type"))
    (dWD : PySem.W.hasDictIn K WD = true)
    (tWD : PySem.W.typeIn K (.ref WD) = some (.type "type"))
    (dBT : PySem.W.hasDictIn K BT = true)
    (tBT : PySem.W.typeIn K (.ref BT) = some (.type "type"))
    (dBI : PySem.W.hasDictIn K BI = true)
    (tBI : PySem.W.typeIn K (.ref BI) = some (.type "type"))
    (dWC : PySem.W.hasDictIn K WC = true)
    (tWC : PySem.W.typeIn K (.ref WC) = some (.type "type"))
    (dSE : PySem.W.hasDictIn K SE = true)
    (tSE : PySem.W.typeIn K (.ref SE) = some (.type "type"))
    (sBOSE : PySem.W.subIn K (.ref BO) (.ref SE) = some true)
    (sBOBT : PySem.W.subIn K (.ref BO) (.ref BT) = some false)
    (sBOWD : PySem.W.subIn K (.ref BO) (.ref WD) = some false)
    (sBOBI : PySem.W.subIn K (.ref BO) (.ref BI) = some false)
    (sWDSE : PySem.W.subIn K (.ref WD) (.ref SE) = some true)
    (sWDBO : PySem.W.subIn K (.ref WD) (.ref BO) = some false)
    (sWDWC : PySem.W.subIn K (.ref WD) (.ref WC) = some false)
    (sSEBO : PySem.W.subIn K (.ref SE) (.ref BO) = some false)
    (sSEWD : PySem.W.subIn K (.ref SE) (.ref WD) = some false)
    (a_pool : PySem.W.nsIn K mainGlobals "_law_pool" = some (some (.ref f_pool)))
    (l_pool : K.lookup f_pool = some ⟨oc_pool, od_pool, .func (PySem.W.fnOf "_law_pool" "_law_pool" (defArgs s_pool) (defBody s_pool) (defScope s_pool) .none kV_pool dc_pool pm_pool an_pool cd_pool ct_pool), sl_pool⟩)
    (c_pool : PySem.W.codeIn K cd_pool "_law_pool" = true)
    (k_pool : PySem.W.keepIn K (.ref f_pool) = true)
    (a_take : PySem.W.nsIn K mainGlobals "_law_take" = some (some (.ref f_take)))
    (l_take : K.lookup f_take = some ⟨oc_take, od_take, .func (PySem.W.fnOf "_law_take" "_law_take" (defArgs s_take) (defBody s_take) (defScope s_take) .none kV_take dc_take pm_take an_take cd_take ct_take), sl_take⟩)
    (c_take : PySem.W.codeIn K cd_take "_law_take" = true)
    (k_take : PySem.W.keepIn K (.ref f_take) = true)
    (a_integer : PySem.W.nsIn K mainGlobals "_law_integer" = some (some (.ref f_integer)))
    (l_integer : K.lookup f_integer = some ⟨oc_integer, od_integer, .func (PySem.W.fnOf "_law_integer" "_law_integer" (defArgs s_integer) (defBody s_integer) (defScope s_integer) .none kV_integer dc_integer pm_integer an_integer cd_integer ct_integer), sl_integer⟩)
    (c_integer : PySem.W.codeIn K cd_integer "_law_integer" = true)
    (k_integer : PySem.W.keepIn K (.ref f_integer) = true)
    (a_chk : PySem.W.nsIn K mainGlobals "check_dimension" = some (some (.ref f_chk)))
    (l_chk : K.lookup f_chk = some ⟨oc_chk, od_chk, .func (PySem.W.fnOf "check_dimension" "check_dimension" (defArgs s_chk) (defBody s_chk) (defScope s_chk) .none kV_chk dc_chk pm_chk an_chk cd_chk ct_chk), sl_chk⟩)
    (c_chk : PySem.W.codeIn K cd_chk "check_dimension" = true)
    (k_chk : PySem.W.keepIn K (.ref f_chk) = true)
    (a_chke : PySem.W.nsIn K mainGlobals "check_entries" = some (some (.ref f_chke)))
    (l_chke : K.lookup f_chke = some ⟨oc_chke, od_chke, .func (PySem.W.fnOf "check_entries" "check_entries" (defArgs s_chke) (defBody s_chke) (defScope s_chke) .none kV_chke dc_chke pm_chke an_chke cd_chke ct_chke), sl_chke⟩)
    (c_chke : PySem.W.codeIn K cd_chke "check_entries" = true)
    (k_chke : PySem.W.keepIn K (.ref f_chke) = true)
    (a_place : PySem.W.nsIn K mainGlobals "standard_place" = some (some (.ref f_place)))
    (l_place : K.lookup f_place = some ⟨oc_place, od_place, .func (PySem.W.fnOf "standard_place" "standard_place" (defArgs s_place) (defBody s_place) (defScope s_place) .none kV_place dc_place pm_place an_place cd_place ct_place), sl_place⟩)
    (c_place : PySem.W.codeIn K cd_place "standard_place" = true)
    (k_place : PySem.W.keepIn K (.ref f_place) = true)
    (a_pair : PySem.W.nsIn K mainGlobals "_check_pair" = some (some (.ref f_pair)))
    (l_pair : K.lookup f_pair = some ⟨oc_pair, od_pair, .func (PySem.W.fnOf "_check_pair" "_check_pair" (defArgs s_pair) (defBody s_pair) (defScope s_pair) .none kV_pair dc_pair pm_pair an_pair cd_pair ct_pair), sl_pair⟩)
    (c_pair : PySem.W.codeIn K cd_pair "_check_pair" = true)
    (k_pair : PySem.W.keepIn K (.ref f_pair) = true)
    (a_before : PySem.W.nsIn K mainGlobals "comes_before" = some (some (.ref f_before)))
    (l_before : K.lookup f_before = some ⟨oc_before, od_before, .func (PySem.W.fnOf "comes_before" "comes_before" (defArgs s_before) (defBody s_before) (defScope s_before) .none kV_before dc_before pm_before an_before cd_before ct_before), sl_before⟩)
    (c_before : PySem.W.codeIn K cd_before "comes_before" = true)
    (k_before : PySem.W.keepIn K (.ref f_before) = true)
    (a_oinit : PySem.W.findIn K (.ref C) "__init__" = some (some (.ref f_oinit)))
    (i_oinit : PySem.W.isFn K (.ref f_oinit) = true)
    (l_oinit : K.lookup f_oinit = some ⟨oc_oinit, od_oinit, .func (PySem.W.fnOf "__init__" "Order.__init__" (defArgs s_oinit) (defBody s_oinit) (defScope s_oinit) .none kV_oinit dc_oinit pm_oinit an_oinit cd_oinit ct_oinit), sl_oinit⟩)
    (c_oinit : PySem.W.codeIn K cd_oinit "Order.__init__" = true)
    (k_oinit : PySem.W.keepIn K (.ref f_oinit) = true)
    (a_oplace : PySem.W.findIn K (.ref C) "_place" = some (some (.ref f_oplace)))
    (i_oplace : PySem.W.isFn K (.ref f_oplace) = true)
    (l_oplace : K.lookup f_oplace = some ⟨oc_oplace, od_oplace, .func (PySem.W.fnOf "_place" "Order._place" (defArgs s_oplace) (defBody s_oplace) (defScope s_oplace) .none kV_oplace dc_oplace pm_oplace an_oplace cd_oplace ct_oplace), sl_oplace⟩)
    (c_oplace : PySem.W.codeIn K cd_oplace "Order._place" = true)
    (k_oplace : PySem.W.keepIn K (.ref f_oplace) = true)
    (a_oprec : PySem.W.findIn K (.ref C) "precedes" = some (some (.ref f_oprec)))
    (i_oprec : PySem.W.isFn K (.ref f_oprec) = true)
    (l_oprec : K.lookup f_oprec = some ⟨oc_oprec, od_oprec, .func (PySem.W.fnOf "precedes" "Order.precedes" (defArgs s_oprec) (defBody s_oprec) (defScope s_oprec) .none kV_oprec dc_oprec pm_oprec an_oprec cd_oprec ct_oprec), sl_oprec⟩)
    (c_oprec : PySem.W.codeIn K cd_oprec "Order.precedes" = true)
    (k_oprec : PySem.W.keepIn K (.ref f_oprec) = true)
    (a_oarr : PySem.W.findIn K (.ref C) "arranged" = some (some (.ref f_oarr)))
    (i_oarr : PySem.W.isFn K (.ref f_oarr) = true)
    (l_oarr : K.lookup f_oarr = some ⟨oc_oarr, od_oarr, .func (PySem.W.fnOf "arranged" "Order.arranged" (defArgs s_oarr) (defBody s_oarr) (defScope s_oarr) .none kV_oarr dc_oarr pm_oarr an_oarr cd_oarr ct_oarr), sl_oarr⟩)
    (c_oarr : PySem.W.codeIn K cd_oarr "Order.arranged" = true)
    (k_oarr : PySem.W.keepIn K (.ref f_oarr) = true)
    (a_oeq : PySem.W.findIn K (.ref C) "__eq__" = some (some (.ref f_oeq)))
    (i_oeq : PySem.W.isFn K (.ref f_oeq) = true)
    (l_oeq : K.lookup f_oeq = some ⟨oc_oeq, od_oeq, .func (PySem.W.fnOf "__eq__" "Order.__eq__" (defArgs s_oeq) (defBody s_oeq) (defScope s_oeq) .none kV_oeq dc_oeq pm_oeq an_oeq cd_oeq ct_oeq), sl_oeq⟩)
    (c_oeq : PySem.W.codeIn K cd_oeq "Order.__eq__" = true)
    (k_oeq : PySem.W.keepIn K (.ref f_oeq) = true)
    (a_omons : PySem.W.nsIn K mainGlobals "_law_monomials" = some (some (.ref f_omons)))
    (l_omons : K.lookup f_omons = some ⟨oc_omons, od_omons, .func (PySem.W.fnOf "_law_monomials" "_law_monomials" (defArgs s_omons) (defBody s_omons) (defScope s_omons) .none kV_omons dc_omons pm_omons an_omons cd_omons ct_omons), sl_omons⟩)
    (c_omons : PySem.W.codeIn K cd_omons "_law_monomials" = true)
    (k_omons : PySem.W.keepIn K (.ref f_omons) = true)
    (a_orank : PySem.W.nsIn K mainGlobals "_law_ranking" = some (some (.ref f_orank)))
    (l_orank : K.lookup f_orank = some ⟨oc_orank, od_orank, .func (PySem.W.fnOf "_law_ranking" "_law_ranking" (defArgs s_orank) (defBody s_orank) (defScope s_orank) .none kV_orank dc_orank pm_orank an_orank cd_orank ct_orank), sl_orank⟩)
    (c_orank : PySem.W.codeIn K cd_orank "_law_ranking" = true)
    (k_orank : PySem.W.keepIn K (.ref f_orank) = true)
    (a_onear : PySem.W.nsIn K mainGlobals "_law_near" = some (some (.ref f_onear)))
    (l_onear : K.lookup f_onear = some ⟨oc_onear, od_onear, .func (PySem.W.fnOf "_law_near" "_law_near" (defArgs s_onear) (defBody s_onear) (defScope s_onear) .none kV_onear dc_onear pm_onear an_onear cd_onear ct_onear), sl_onear⟩)
    (c_onear : PySem.W.codeIn K cd_onear "_law_near" = true)
    (k_onear : PySem.W.keepIn K (.ref f_onear) = true)
    (a_oword : PySem.W.nsIn K mainGlobals "_law_word" = some (some (.ref f_oword)))
    (l_oword : K.lookup f_oword = some ⟨oc_oword, od_oword, .func (PySem.W.fnOf "_law_word" "_law_word" (defArgs s_oword) (defBody s_oword) (defScope s_oword) .none kV_oword dc_oword pm_oword an_oword cd_oword ct_oword), sl_oword⟩)
    (c_oword : PySem.W.codeIn K cd_oword "_law_word" = true)
    (k_oword : PySem.W.keepIn K (.ref f_oword) = true)
    (a_oearl : PySem.W.nsIn K mainGlobals "_law_earlier" = some (some (.ref f_oearl)))
    (l_oearl : K.lookup f_oearl = some ⟨oc_oearl, od_oearl, .func (PySem.W.fnOf "_law_earlier" "_law_earlier" (defArgs s_oearl) (defBody s_oearl) (defScope s_oearl) .none kV_oearl dc_oearl pm_oearl an_oearl cd_oearl ct_oearl), sl_oearl⟩)
    (c_oearl : PySem.W.codeIn K cd_oearl "_law_earlier" = true)
    (k_oearl : PySem.W.keepIn K (.ref f_oearl) = true)
    (a_oasc : PySem.W.nsIn K mainGlobals "_law_ascending" = some (some (.ref f_oasc)))
    (l_oasc : K.lookup f_oasc = some ⟨oc_oasc, od_oasc, .func (PySem.W.fnOf "_law_ascending" "_law_ascending" (defArgs s_oasc) (defBody s_oasc) (defScope s_oasc) .none kV_oasc dc_oasc pm_oasc an_oasc cd_oasc ct_oasc), sl_oasc⟩)
    (c_oasc : PySem.W.codeIn K cd_oasc "_law_ascending" = true)
    (k_oasc : PySem.W.keepIn K (.ref f_oasc) = true)
    (a_says : PySem.W.nsIn K mainGlobals "_law_says" = some (some (.ref f_says)))
    (l_says : K.lookup f_says = some ⟨oc_says, od_says, .func (PySem.W.fnOf "_law_says" "_law_says" (defArgs s_says) (defBody s_says) (defScope s_says) .none kV_says dc_says pm_says an_says cd_says ct_says), sl_says⟩)
    (c_says : PySem.W.codeIn K cd_says "_law_says" = true)
    (k_says : PySem.W.keepIn K (.ref f_says) = true)
    (a_ois : PySem.W.nsIn K mainGlobals "_law_is" = some (some (.ref f_ois)))
    (l_ois : K.lookup f_ois = some ⟨oc_ois, od_ois, .func (PySem.W.fnOf "_law_is" "_law_is" (defArgs s_ois) (defBody s_ois) (defScope s_ois) .none kV_ois dc_ois pm_ois an_ois cd_ois ct_ois), sl_ois⟩)
    (c_ois : PySem.W.codeIn K cd_ois "_law_is" = true)
    (k_ois : PySem.W.keepIn K (.ref f_ois) = true)
    (a_nord : PySem.W.nsIn K mainGlobals "_law_no_order" = some (some (.ref f_nord)))
    (l_nord : K.lookup f_nord = some ⟨oc_nord, od_nord, .func (PySem.W.fnOf "_law_no_order" "_law_no_order" (defArgs s_nord) (defBody s_nord) (defScope s_nord) .none kV_nord dc_nord pm_nord an_nord cd_nord ct_nord), sl_nord⟩)
    (c_nord : PySem.W.codeIn K cd_nord "_law_no_order" = true)
    (k_nord : PySem.W.keepIn K (.ref f_nord) = true)
    (a_narr : PySem.W.nsIn K mainGlobals "_law_no_arranging" = some (some (.ref f_narr)))
    (l_narr : K.lookup f_narr = some ⟨oc_narr, od_narr, .func (PySem.W.fnOf "_law_no_arranging" "_law_no_arranging" (defArgs s_narr) (defBody s_narr) (defScope s_narr) .none kV_narr dc_narr pm_narr an_narr cd_narr ct_narr), sl_narr⟩)
    (c_narr : PySem.W.codeIn K cd_narr "_law_no_arranging" = true)
    (k_narr : PySem.W.keepIn K (.ref f_narr) = true)
    (a_nprec : PySem.W.nsIn K mainGlobals "_law_no_preceding" = some (some (.ref f_nprec)))
    (l_nprec : K.lookup f_nprec = some ⟨oc_nprec, od_nprec, .func (PySem.W.fnOf "_law_no_preceding" "_law_no_preceding" (defArgs s_nprec) (defBody s_nprec) (defScope s_nprec) .none kV_nprec dc_nprec pm_nprec an_nprec cd_nprec ct_nprec), sl_nprec⟩)
    (c_nprec : PySem.W.codeIn K cd_nprec "_law_no_preceding" = true)
    (k_nprec : PySem.W.keepIn K (.ref f_nprec) = true)
    (a_omade : PySem.W.nsIn K mainGlobals "_law_made" = some (some (.ref f_omade)))
    (l_omade : K.lookup f_omade = some ⟨oc_omade, od_omade, .func (PySem.W.fnOf "_law_made" "_law_made" (defArgs s_omade) (defBody s_omade) (defScope s_omade) .none kV_omade dc_omade pm_omade an_omade cd_omade ct_omade), sl_omade⟩)
    (c_omade : PySem.W.codeIn K cd_omade "_law_made" = true)
    (k_omade : PySem.W.keepIn K (.ref f_omade) = true)
    (a_oarrs : PySem.W.nsIn K mainGlobals "_law_arranges" = some (some (.ref f_oarrs)))
    (l_oarrs : K.lookup f_oarrs = some ⟨oc_oarrs, od_oarrs, .func (PySem.W.fnOf "_law_arranges" "_law_arranges" (defArgs s_oarrs) (defBody s_oarrs) (defScope s_oarrs) .none kV_oarrs dc_oarrs pm_oarrs an_oarrs cd_oarrs ct_oarrs), sl_oarrs⟩)
    (c_oarrs : PySem.W.codeIn K cd_oarrs "_law_arranges" = true)
    (k_oarrs : PySem.W.keepIn K (.ref f_oarrs) = true)
    (a_ounl : PySem.W.nsIn K mainGlobals "_law_unlike" = some (some (.ref f_ounl)))
    (l_ounl : K.lookup f_ounl = some ⟨oc_ounl, od_ounl, .func (PySem.W.fnOf "_law_unlike" "_law_unlike" (defArgs s_ounl) (defBody s_ounl) (defScope s_ounl) .none kV_ounl dc_ounl pm_ounl an_ounl cd_ounl ct_ounl), sl_ounl⟩)
    (c_ounl : PySem.W.codeIn K cd_ounl "_law_unlike" = true)
    (k_ounl : PySem.W.keepIn K (.ref f_ounl) = true)
    (a_olaw : PySem.W.nsIn K mainGlobals "law" = some (some (.ref f_olaw)))
    (l_olaw : K.lookup f_olaw = some ⟨oc_olaw, od_olaw, .func (PySem.W.fnOf "law" "law" (defArgs s_olaw) (defBody s_olaw) (defScope s_olaw) .none kV_olaw dc_olaw pm_olaw an_olaw cd_olaw ct_olaw), sl_olaw⟩)
    (c_olaw : PySem.W.codeIn K cd_olaw "law" = true)
    (k_olaw : PySem.W.keepIn K (.ref f_olaw) = true)
    (gfp : PySem.W.specialIn K (.ref f_oplace) "__get__" = some (some (.builtin "function.__get__")))
    (tkp : PySem.W.takesIn K (.ref f_oplace) = some false)
    (fip : PySem.W.fnIn K f_oplace = true)
    : ∃ fd : FuncData, (∀ (s : Shared) (v : Value), BindsTo s fd ⟨[v], []⟩ [("script", v)]) ∧ ∀ base : Heap, K.In base → base.Ns mainGlobals mg → FnOk P w K mg base CX0 13 fa fd ["script"] (spLaw K) := by
  have e := hfa.symm.trans (PySem.W.mg_of X G a_olaw)
  obtain rfl : f_olaw = fa := by
    cases e
    rfl
  have F_pool := fun_mk (st := s_pool) l_pool c_pool k_pool
  have b_pool := F_pool.binds (ps := ["script"]) fun _ _ _ _ _ _ us hl => match us, hl with | [_], _ => rfl
  have F_take := fun_mk (st := s_take) l_take c_take k_take
  have b_take := F_take.binds (ps := ["pool", "most"]) fun _ _ _ _ _ _ us hl => match us, hl with | [_, _], _ => rfl
  have F_integer := fun_mk (st := s_integer) l_integer c_integer k_integer
  have b_integer := F_integer.binds (ps := ["thing"]) fun _ _ _ _ _ _ us hl => match us, hl with | [_], _ => rfl
  have F_chk := fun_mk (st := s_chk) l_chk c_chk k_chk
  have b_chk := F_chk.binds (ps := ["dimension"]) fun _ _ _ _ _ _ us hl => match us, hl with | [_], _ => rfl
  have F_chke := fun_mk (st := s_chke) l_chke c_chke k_chke
  have b_chke := F_chke.binds (ps := ["entries", "dimension"]) fun _ _ _ _ _ _ us hl => match us, hl with | [_, _], _ => rfl
  have F_place := fun_mk (st := s_place) l_place c_place k_place
  have b_place := F_place.binds (ps := ["exponents"]) fun _ _ _ _ _ _ us hl => match us, hl with | [_], _ => rfl
  have F_pair := fun_mk (st := s_pair) l_pair c_pair k_pair
  have b_pair := F_pair.binds (ps := ["first", "second"]) fun _ _ _ _ _ _ us hl => match us, hl with | [_, _], _ => rfl
  have F_before := fun_mk (st := s_before) l_before c_before k_before
  have b_before := F_before.binds (ps := ["first", "second"]) fun _ _ _ _ _ _ us hl => match us, hl with | [_, _], _ => rfl
  have F_oinit := fun_mk (st := s_oinit) l_oinit c_oinit k_oinit
  have b_oinit := F_oinit.binds (ps := ["self", "kind", "ranking"]) fun _ _ _ _ _ _ us hl => match us, hl with | [_, _, _], _ => rfl
  have F_oplace := fun_mk (st := s_oplace) l_oplace c_oplace k_oplace
  have b_oplace := F_oplace.binds (ps := ["self", "exponents"]) fun _ _ _ _ _ _ us hl => match us, hl with | [_, _], _ => rfl
  have F_oprec := fun_mk (st := s_oprec) l_oprec c_oprec k_oprec
  have b_oprec := F_oprec.binds (ps := ["self", "first", "second"]) fun _ _ _ _ _ _ us hl => match us, hl with | [_, _, _], _ => rfl
  have F_oarr := fun_mk (st := s_oarr) l_oarr c_oarr k_oarr
  have b_oarr := F_oarr.binds (ps := ["self", "monomials"]) fun _ _ _ _ _ _ us hl => match us, hl with | [_, _], _ => rfl
  have F_oeq := fun_mk (st := s_oeq) l_oeq c_oeq k_oeq
  have b_oeq := F_oeq.binds (ps := ["self", "other"]) fun _ _ _ _ _ _ us hl => match us, hl with | [_, _], _ => rfl
  have F_omons := fun_mk (st := s_omons) l_omons c_omons k_omons
  have b_omons := F_omons.binds (ps := ["dimension", "high"]) fun _ _ _ _ _ _ us hl => match us, hl with | [_, _], _ => rfl
  have F_orank := fun_mk (st := s_orank) l_orank c_orank k_orank
  have b_orank := F_orank.binds (ps := ["pool", "dimension"]) fun _ _ _ _ _ _ us hl => match us, hl with | [_, _], _ => rfl
  have F_onear := fun_mk (st := s_onear) l_onear c_onear k_onear
  have b_onear := F_onear.binds (ps := ["pool", "before"]) fun _ _ _ _ _ _ us hl => match us, hl with | [_, _], _ => rfl
  have F_oword := fun_mk (st := s_oword) l_oword c_oword k_oword
  have b_oword := F_oword.binds (ps := ["pool"]) fun _ _ _ _ _ _ us hl => match us, hl with | [_], _ => rfl
  have F_oearl := fun_mk (st := s_oearl) l_oearl c_oearl k_oearl
  have b_oearl := F_oearl.binds (ps := ["kind", "ranking", "one", "two"]) fun _ _ _ _ _ _ us hl => match us, hl with | [_, _, _, _], _ => rfl
  have F_oasc := fun_mk (st := s_oasc) l_oasc c_oasc k_oasc
  have b_oasc := F_oasc.binds (ps := ["kind", "ranking", "places"]) fun _ _ _ _ _ _ us hl => match us, hl with | [_, _, _], _ => rfl
  have F_says := fun_mk (st := s_says) l_says c_says k_says
  have b_says := F_says.binds (ps := ["told", "due"]) fun _ _ _ _ _ _ us hl => match us, hl with | [_, _], _ => rfl
  have F_ois := fun_mk (st := s_ois) l_ois c_ois k_ois
  have b_ois := F_ois.binds (ps := ["order", "kind", "ranking"]) fun _ _ _ _ _ _ us hl => match us, hl with | [_, _, _], _ => rfl
  have F_nord := fun_mk (st := s_nord) l_nord c_nord k_nord
  have b_nord := F_nord.binds (ps := ["kind", "ranking"]) fun _ _ _ _ _ _ us hl => match us, hl with | [_, _], _ => rfl
  have F_narr := fun_mk (st := s_narr) l_narr c_narr k_narr
  have b_narr := F_narr.binds (ps := ["order", "places"]) fun _ _ _ _ _ _ us hl => match us, hl with | [_, _], _ => rfl
  have F_nprec := fun_mk (st := s_nprec) l_nprec c_nprec k_nprec
  have b_nprec := F_nprec.binds (ps := ["order", "one", "two"]) fun _ _ _ _ _ _ us hl => match us, hl with | [_, _, _], _ => rfl
  have F_omade := fun_mk (st := s_omade) l_omade c_omade k_omade
  have b_omade := F_omade.binds (ps := ["word", "told"]) fun _ _ _ _ _ _ us hl => match us, hl with | [_, _], _ => rfl
  have F_oarrs := fun_mk (st := s_oarrs) l_oarrs c_oarrs k_oarrs
  have b_oarrs := F_oarrs.binds (ps := ["order", "kind", "ranking", "places"]) fun _ _ _ _ _ _ us hl => match us, hl with | [_, _, _, _], _ => rfl
  have F_ounl := fun_mk (st := s_ounl) l_ounl c_ounl k_ounl
  have b_ounl := F_ounl.binds (ps := ["order", "kind", "ranking"]) fun _ _ _ _ _ _ us hl => match us, hl with | [_, _, _], _ => rfl
  have F_olaw := fun_mk (st := s_olaw) l_olaw c_olaw k_olaw
  have b_olaw := F_olaw.binds (ps := ["script"]) fun _ _ _ _ _ _ us hl => match us, hl with | [_], _ => rfl
  have yBO : ∀ c ∈ [SE], PySem.W.kitOne K (.ref BO) (.ref c) = some true := fun c hc => by
        simp only [List.mem_cons, List.not_mem_nil, or_false] at hc
        subst hc
        exact kit_true zzBO sSEBO sBOSE dSE tSE
  have nBO : ∀ c ∈ [BT, WD, BI], PySem.W.kitOne K (.ref BO) (.ref c) = some false := fun c hc => by
        simp only [List.mem_cons, List.not_mem_nil, or_false] at hc
        rcases hc with rfl | rfl | rfl
        · exact kit_other zzBO sBOBT dBT tBT
        · exact kit_other zzBO sBOWD dWD tWD
        · exact kit_other zzBO sBOBI dBI tBI
  have yWD : ∀ c ∈ [SE], PySem.W.kitOne K (.ref WD) (.ref c) = some true := fun c hc => by
        simp only [List.mem_cons, List.not_mem_nil, or_false] at hc
        subst hc
        exact kit_true zzWD sSEWD sWDSE dSE tSE
  have nWD : ∀ c ∈ [BO, WC], PySem.W.kitOne K (.ref WD) (.ref c) = some false := fun c hc => by
        simp only [List.mem_cons, List.not_mem_nil, or_false] at hc
        rcases hc with rfl | rfl
        · exact kit_other zzWD sWDBO dBO tBO
        · exact kit_other zzWD sWDWC dWC tWC
  have T : Txt K mg {
      C := C,
      BO := BO,
      WD := WD,
      BT := BT,
      BI := BI,
      WC := WC,
      SE := SE,
      f_pool := f_pool,
      d_pool := PySem.W.fnOf "_law_pool" "_law_pool" (defArgs s_pool) (defBody s_pool) (defScope s_pool) .none kV_pool dc_pool pm_pool an_pool cd_pool ct_pool,
      f_take := f_take,
      d_take := PySem.W.fnOf "_law_take" "_law_take" (defArgs s_take) (defBody s_take) (defScope s_take) .none kV_take dc_take pm_take an_take cd_take ct_take,
      f_integer := f_integer,
      d_integer := PySem.W.fnOf "_law_integer" "_law_integer" (defArgs s_integer) (defBody s_integer) (defScope s_integer) .none kV_integer dc_integer pm_integer an_integer cd_integer ct_integer,
      f_chk := f_chk,
      d_chk := PySem.W.fnOf "check_dimension" "check_dimension" (defArgs s_chk) (defBody s_chk) (defScope s_chk) .none kV_chk dc_chk pm_chk an_chk cd_chk ct_chk,
      f_chke := f_chke,
      d_chke := PySem.W.fnOf "check_entries" "check_entries" (defArgs s_chke) (defBody s_chke) (defScope s_chke) .none kV_chke dc_chke pm_chke an_chke cd_chke ct_chke,
      f_place := f_place,
      d_place := PySem.W.fnOf "standard_place" "standard_place" (defArgs s_place) (defBody s_place) (defScope s_place) .none kV_place dc_place pm_place an_place cd_place ct_place,
      f_pair := f_pair,
      d_pair := PySem.W.fnOf "_check_pair" "_check_pair" (defArgs s_pair) (defBody s_pair) (defScope s_pair) .none kV_pair dc_pair pm_pair an_pair cd_pair ct_pair,
      f_before := f_before,
      d_before := PySem.W.fnOf "comes_before" "comes_before" (defArgs s_before) (defBody s_before) (defScope s_before) .none kV_before dc_before pm_before an_before cd_before ct_before,
      f_oinit := f_oinit,
      d_oinit := PySem.W.fnOf "__init__" "Order.__init__" (defArgs s_oinit) (defBody s_oinit) (defScope s_oinit) .none kV_oinit dc_oinit pm_oinit an_oinit cd_oinit ct_oinit,
      f_oplace := f_oplace,
      d_oplace := PySem.W.fnOf "_place" "Order._place" (defArgs s_oplace) (defBody s_oplace) (defScope s_oplace) .none kV_oplace dc_oplace pm_oplace an_oplace cd_oplace ct_oplace,
      f_oprec := f_oprec,
      d_oprec := PySem.W.fnOf "precedes" "Order.precedes" (defArgs s_oprec) (defBody s_oprec) (defScope s_oprec) .none kV_oprec dc_oprec pm_oprec an_oprec cd_oprec ct_oprec,
      f_oarr := f_oarr,
      d_oarr := PySem.W.fnOf "arranged" "Order.arranged" (defArgs s_oarr) (defBody s_oarr) (defScope s_oarr) .none kV_oarr dc_oarr pm_oarr an_oarr cd_oarr ct_oarr,
      f_oeq := f_oeq,
      d_oeq := PySem.W.fnOf "__eq__" "Order.__eq__" (defArgs s_oeq) (defBody s_oeq) (defScope s_oeq) .none kV_oeq dc_oeq pm_oeq an_oeq cd_oeq ct_oeq,
      f_omons := f_omons,
      d_omons := PySem.W.fnOf "_law_monomials" "_law_monomials" (defArgs s_omons) (defBody s_omons) (defScope s_omons) .none kV_omons dc_omons pm_omons an_omons cd_omons ct_omons,
      f_orank := f_orank,
      d_orank := PySem.W.fnOf "_law_ranking" "_law_ranking" (defArgs s_orank) (defBody s_orank) (defScope s_orank) .none kV_orank dc_orank pm_orank an_orank cd_orank ct_orank,
      f_onear := f_onear,
      d_onear := PySem.W.fnOf "_law_near" "_law_near" (defArgs s_onear) (defBody s_onear) (defScope s_onear) .none kV_onear dc_onear pm_onear an_onear cd_onear ct_onear,
      f_oword := f_oword,
      d_oword := PySem.W.fnOf "_law_word" "_law_word" (defArgs s_oword) (defBody s_oword) (defScope s_oword) .none kV_oword dc_oword pm_oword an_oword cd_oword ct_oword,
      f_oearl := f_oearl,
      d_oearl := PySem.W.fnOf "_law_earlier" "_law_earlier" (defArgs s_oearl) (defBody s_oearl) (defScope s_oearl) .none kV_oearl dc_oearl pm_oearl an_oearl cd_oearl ct_oearl,
      f_oasc := f_oasc,
      d_oasc := PySem.W.fnOf "_law_ascending" "_law_ascending" (defArgs s_oasc) (defBody s_oasc) (defScope s_oasc) .none kV_oasc dc_oasc pm_oasc an_oasc cd_oasc ct_oasc,
      f_says := f_says,
      d_says := PySem.W.fnOf "_law_says" "_law_says" (defArgs s_says) (defBody s_says) (defScope s_says) .none kV_says dc_says pm_says an_says cd_says ct_says,
      f_ois := f_ois,
      d_ois := PySem.W.fnOf "_law_is" "_law_is" (defArgs s_ois) (defBody s_ois) (defScope s_ois) .none kV_ois dc_ois pm_ois an_ois cd_ois ct_ois,
      f_nord := f_nord,
      d_nord := PySem.W.fnOf "_law_no_order" "_law_no_order" (defArgs s_nord) (defBody s_nord) (defScope s_nord) .none kV_nord dc_nord pm_nord an_nord cd_nord ct_nord,
      f_narr := f_narr,
      d_narr := PySem.W.fnOf "_law_no_arranging" "_law_no_arranging" (defArgs s_narr) (defBody s_narr) (defScope s_narr) .none kV_narr dc_narr pm_narr an_narr cd_narr ct_narr,
      f_nprec := f_nprec,
      d_nprec := PySem.W.fnOf "_law_no_preceding" "_law_no_preceding" (defArgs s_nprec) (defBody s_nprec) (defScope s_nprec) .none kV_nprec dc_nprec pm_nprec an_nprec cd_nprec ct_nprec,
      f_omade := f_omade,
      d_omade := PySem.W.fnOf "_law_made" "_law_made" (defArgs s_omade) (defBody s_omade) (defScope s_omade) .none kV_omade dc_omade pm_omade an_omade cd_omade ct_omade,
      f_oarrs := f_oarrs,
      d_oarrs := PySem.W.fnOf "_law_arranges" "_law_arranges" (defArgs s_oarrs) (defBody s_oarrs) (defScope s_oarrs) .none kV_oarrs dc_oarrs pm_oarrs an_oarrs cd_oarrs ct_oarrs,
      f_ounl := f_ounl,
      d_ounl := PySem.W.fnOf "_law_unlike" "_law_unlike" (defArgs s_ounl) (defBody s_ounl) (defScope s_ounl) .none kV_ounl dc_ounl pm_ounl an_ounl cd_ounl ct_ounl,
      f_olaw := f_olaw,
      d_olaw := PySem.W.fnOf "law" "law" (defArgs s_olaw) (defBody s_olaw) (defScope s_olaw) .none kV_olaw dc_olaw pm_olaw an_olaw cd_olaw ct_olaw } :=
    {
      isa_Order := ⟨⟨pg, hd, po, sa⟩, ca, cn, ct, cm, kit_tyr (by decide +kernel) su2, kit_ref (fun e => by cases e) hd tC su1⟩,
      na_kind := na_kind,
      na_ranking := na_ranking,
      na_dimension := na_dimension,
      g_Order := PySem.W.mg_of X G gC,
      mk_Order := ⟨mk, a_oinit, i_oinit, kC⟩,
      m_oplace := ⟨a_oplace, i_oplace, k_oplace⟩,
      m_oprec := ⟨a_oprec, i_oprec, k_oprec⟩,
      m_oarr := ⟨a_oarr, i_oarr, k_oarr⟩,
      bm_oplace := ⟨⟨a_oplace, i_oplace, k_oplace⟩, gfp, tkp, by decide +kernel, fip⟩,
      o_eq := ⟨a_oeq, i_oeq, su1, su2⟩,
      exBO := ⟨⟨zgBO, zkBO, bBO, dBO, zaBO, cn, ct, zmBO⟩, PySem.W.exm_ref bBO dBO tBO zzBO, kit_tyr (by decide +kernel) veBO, yBO, nBO⟩,
      exWD := ⟨⟨zgWD, zkWD, bWD, dWD, zaWD, cn, ct, zmWD⟩, PySem.W.exm_ref bWD dWD tWD zzWD, kit_tyr (by decide +kernel) veWD, yWD, nWD⟩,
      xBO := xBO,
      kBO := kBO,
      bBO := bBO,
      tBO := tBO,
      gBO := PySem.W.mg_of X G gBO,
      xWD := xWD,
      kWD := kWD,
      bWD := bWD,
      tWD := tWD,
      gWD := PySem.W.mg_of X G gWD,
      c_DIMENSIONS := ⟨_, PySem.W.mg_of X G cDIMENSIONS, ⟨tkDIMENSIONS, rfl⟩⟩,
      c_BY_DEGREE := ⟨_, PySem.W.mg_of X G cBY_DEGREE, ⟨tkBY_DEGREE, rfl⟩⟩,
      c_BY_VARIABLES := ⟨_, PySem.W.mg_of X G cBY_VARIABLES, ⟨tkBY_VARIABLES, rfl⟩⟩,
      g_BadOrder := PySem.W.mg_of X G gBO,
      g_WrongDimension := PySem.W.mg_of X G gWD,
      g_BadText := PySem.W.mg_of X G gBT,
      g_BadIndex := PySem.W.mg_of X G gBI,
      g_WrongCount := PySem.W.mg_of X G gWC,
      g_SpotError := PySem.W.mg_of X G gSE,
      n_len := PySem.W.mg_none_of X G n_len,
      n_abs := PySem.W.mg_none_of X G n_abs,
      n_int := PySem.W.mg_none_of X G n_int,
      n_list := PySem.W.mg_none_of X G n_list,
      n_bool := PySem.W.mg_none_of X G n_bool,
      n_isinstance := PySem.W.mg_none_of X G n_isinstance,
      n_range := PySem.W.mg_none_of X G n_range,
      n_ValueError := PySem.W.mg_none_of X G n_ValueError,
      n_str := PySem.W.mg_none_of X G n_str,
      n_tuple := PySem.W.mg_none_of X G n_tuple,
      n_sum := PySem.W.mg_none_of X G n_sum,
      n_sorted := PySem.W.mg_none_of X G n_sorted,
      F_pool := F_pool,
      b_pool := b_pool,
      g_pool := PySem.W.mg_of X G a_pool,
      k_pool := k_pool,
      F_take := F_take,
      b_take := b_take,
      g_take := PySem.W.mg_of X G a_take,
      k_take := k_take,
      F_integer := F_integer,
      b_integer := b_integer,
      g_integer := PySem.W.mg_of X G a_integer,
      k_integer := k_integer,
      F_chk := F_chk,
      b_chk := b_chk,
      g_chk := PySem.W.mg_of X G a_chk,
      k_chk := k_chk,
      F_chke := F_chke,
      b_chke := b_chke,
      g_chke := PySem.W.mg_of X G a_chke,
      k_chke := k_chke,
      F_place := F_place,
      b_place := b_place,
      g_place := PySem.W.mg_of X G a_place,
      k_place := k_place,
      F_pair := F_pair,
      b_pair := b_pair,
      g_pair := PySem.W.mg_of X G a_pair,
      k_pair := k_pair,
      F_before := F_before,
      b_before := b_before,
      g_before := PySem.W.mg_of X G a_before,
      k_before := k_before,
      F_oinit := F_oinit,
      b_oinit := b_oinit,
      F_oplace := F_oplace,
      b_oplace := b_oplace,
      F_oprec := F_oprec,
      b_oprec := b_oprec,
      F_oarr := F_oarr,
      b_oarr := b_oarr,
      F_oeq := F_oeq,
      b_oeq := b_oeq,
      F_omons := F_omons,
      b_omons := b_omons,
      g_omons := PySem.W.mg_of X G a_omons,
      k_omons := k_omons,
      F_orank := F_orank,
      b_orank := b_orank,
      g_orank := PySem.W.mg_of X G a_orank,
      k_orank := k_orank,
      F_onear := F_onear,
      b_onear := b_onear,
      g_onear := PySem.W.mg_of X G a_onear,
      k_onear := k_onear,
      F_oword := F_oword,
      b_oword := b_oword,
      g_oword := PySem.W.mg_of X G a_oword,
      k_oword := k_oword,
      F_oearl := F_oearl,
      b_oearl := b_oearl,
      g_oearl := PySem.W.mg_of X G a_oearl,
      k_oearl := k_oearl,
      F_oasc := F_oasc,
      b_oasc := b_oasc,
      g_oasc := PySem.W.mg_of X G a_oasc,
      k_oasc := k_oasc,
      F_says := F_says,
      b_says := b_says,
      g_says := PySem.W.mg_of X G a_says,
      k_says := k_says,
      F_ois := F_ois,
      b_ois := b_ois,
      g_ois := PySem.W.mg_of X G a_ois,
      k_ois := k_ois,
      F_nord := F_nord,
      b_nord := b_nord,
      g_nord := PySem.W.mg_of X G a_nord,
      k_nord := k_nord,
      F_narr := F_narr,
      b_narr := b_narr,
      g_narr := PySem.W.mg_of X G a_narr,
      k_narr := k_narr,
      F_nprec := F_nprec,
      b_nprec := b_nprec,
      g_nprec := PySem.W.mg_of X G a_nprec,
      k_nprec := k_nprec,
      F_omade := F_omade,
      b_omade := b_omade,
      g_omade := PySem.W.mg_of X G a_omade,
      k_omade := k_omade,
      F_oarrs := F_oarrs,
      b_oarrs := b_oarrs,
      g_oarrs := PySem.W.mg_of X G a_oarrs,
      k_oarrs := k_oarrs,
      F_ounl := F_ounl,
      b_ounl := b_ounl,
      g_ounl := PySem.W.mg_of X G a_ounl,
      k_ounl := k_ounl,
      F_olaw := F_olaw,
      b_olaw := b_olaw,
      g_olaw := PySem.W.mg_of X G a_olaw,
      k_olaw := k_olaw }
  exact ⟨_, fun s v => .of_eq rfl, fun base _ _ => ok_olaw T⟩
theorem walk {l : PySem.W.OpenLaw} {q : Program} {loose : List Str} {XP : (Str → Option Value) → Heap → Prop} {YP : World → Heap → Prop} {d : DefRec} {K : Params → PySem.W.Frag} (hn : l.most = some 63) (hdf : d.params.defaults = [])
    (hY : ∀ (w : World) (h : Heap), YP w h → (K w.params).In h)
    (F : ∀ (w : World) (mg : Str → Option Value) (fa : Addr) (h : Heap), (K w.params).In h → h.Ns mainGlobals mg → mg d.name = some (.ref fa) →
      ∃ fd : FuncData, (∀ (s : Shared) (u : Value), BindsTo s fd ⟨[u], []⟩ [("script", u)]) ∧ ∀ base : Heap, (K w.params).In base → base.Ns mainGlobals mg → FnOk l.prog w (K w.params) mg base CX0 13 fa fd ["script"] (spLaw (K w.params))) :
    PySem.W.WalkO q loose XP YP l.row.toRowW d [] (fun f vs => PySem.call f vs) :=
  L2.walk_of (n := 63) (k := 13) (x := "script") (CX := fun _ => CX0) (sp := fun w => spLaw (K w.params)) hn (by decide) hdf ⟨rfl, by decide, by decide⟩ hY F (fun _ _ a ns hl _ hS => ⟨a, ns, rfl, hS, hl, fun _ => rfl⟩) fun _ _ _ _ _ z => z
end SpX

set_option Elab.async false
open PySem PySem.W PyProof.Rows
set_option maxRecDepth 100000 in
set_option maxHeartbeats 0 in
theorem PySem.Challenge.cw_spotheights_k26_orders_arrange_holds : PySem.Challenge.rw_spotheights_k26_orders_arrange.Holds := by
  w_on; o_law; k_head; (case hw => w_witness2)
  k_fill
  refine SpX.walk (l := PySem.Challenge.rw_spotheights_k26_orders_arrange) rfl rfl (fun w h Y => PySem.W.kIn_of Y) ?F
  case F =>
    intro w mg fa h KX G hmg
    refine' SpX.all_mk KX G hmg ?gC ?gBO ?gWD ?gBT ?gBI ?gWC ?gSE ?n_len ?n_abs ?n_int ?n_list ?n_bool ?n_isinstance ?n_range ?n_ValueError ?n_str ?n_tuple ?n_sum ?n_sorted ?cDIMENSIONS ?cBY_DEGREE ?cBY_VARIABLES ?pg ?hd ?po ?sa ?ca ?cn ?ct ?cm ?tC ?na_kind ?na_ranking ?na_dimension ?mk ?kC ?su1 ?su2 ?xBO ?kBO ?bBO ?zgBO ?zkBO ?zaBO ?zmBO ?veBO ?zzBO ?xWD ?kWD ?bWD ?zgWD ?zkWD ?zaWD ?zmWD ?veWD ?zzWD ?dBO ?tBO ?dWD ?tWD ?dBT ?tBT ?dBI ?tBI ?dWC ?tWC ?dSE ?tSE ?sBOSE ?sBOBT ?sBOWD ?sBOBI ?sWDSE ?sWDBO ?sWDWC ?sSEBO ?sSEWD ?a_pool ?l_pool ?c_pool ?k_pool ?a_take ?l_take ?c_take ?k_take ?a_integer ?l_integer ?c_integer ?k_integer ?a_chk ?l_chk ?c_chk ?k_chk ?a_chke ?l_chke ?c_chke ?k_chke ?a_place ?l_place ?c_place ?k_place ?a_pair ?l_pair ?c_pair ?k_pair ?a_before ?l_before ?c_before ?k_before ?a_oinit ?i_oinit ?l_oinit ?c_oinit ?k_oinit ?a_oplace ?i_oplace ?l_oplace ?c_oplace ?k_oplace ?a_oprec ?i_oprec ?l_oprec ?c_oprec ?k_oprec ?a_oarr ?i_oarr ?l_oarr ?c_oarr ?k_oarr ?a_oeq ?i_oeq ?l_oeq ?c_oeq ?k_oeq ?a_omons ?l_omons ?c_omons ?k_omons ?a_orank ?l_orank ?c_orank ?k_orank ?a_onear ?l_onear ?c_onear ?k_onear ?a_oword ?l_oword ?c_oword ?k_oword ?a_oearl ?l_oearl ?c_oearl ?k_oearl ?a_oasc ?l_oasc ?c_oasc ?k_oasc ?a_says ?l_says ?c_says ?k_says ?a_ois ?l_ois ?c_ois ?k_ois ?a_nord ?l_nord ?c_nord ?k_nord ?a_narr ?l_narr ?c_narr ?k_narr ?a_nprec ?l_nprec ?c_nprec ?k_nprec ?a_omade ?l_omade ?c_omade ?k_omade ?a_oarrs ?l_oarrs ?c_oarrs ?k_oarrs ?a_ounl ?l_ounl ?c_ounl ?k_ounl ?a_olaw ?l_olaw ?c_olaw ?k_olaw ?gfp ?tkp ?fip
    (case gC => k_is)
    (case gBO => k_is)
    (case gWD => k_is)
    (case gBT => k_is)
    (case gBI => k_is)
    (case gWC => k_is)
    (case gSE => k_is)
    (case n_len => k_is)
    (case n_abs => k_is)
    (case n_int => k_is)
    (case n_list => k_is)
    (case n_bool => k_is)
    (case n_isinstance => k_is)
    (case n_range => k_is)
    (case n_ValueError => k_is)
    (case n_str => k_is)
    (case n_tuple => k_is)
    (case n_sum => k_is)
    (case n_sorted => k_is)
    (case cDIMENSIONS => k_is)
    (case cBY_DEGREE => k_is)
    (case cBY_VARIABLES => k_is)
    (case pg => k_is)
    (case hd => k_is)
    (case po => k_is)
    (case sa => k_is)
    (case ca => k_is)
    (case cn => k_is)
    (case ct => k_is)
    (case cm => k_is)
    (case tC => k_is)
    (case na_kind => k_is)
    (case na_ranking => k_is)
    (case na_dimension => k_is)
    (case mk => k_is)
    (case kC => k_is)
    (case su1 => k_is)
    (case su2 => k_is)
    (case xBO => k_exc)
    (case kBO => k_is)
    (case bBO => k_is)
    (case zgBO => k_is)
    (case zkBO => k_is)
    (case zaBO => k_is)
    (case zmBO => k_is)
    (case veBO => k_is)
    (case zzBO => first | rfl | k_is)
    (case xWD => k_exc)
    (case kWD => k_is)
    (case bWD => k_is)
    (case zgWD => k_is)
    (case zkWD => k_is)
    (case zaWD => k_is)
    (case zmWD => k_is)
    (case veWD => k_is)
    (case zzWD => first | rfl | k_is)
    (case dBO => k_is)
    (case tBO => k_is)
    (case dWD => k_is)
    (case tWD => k_is)
    (case dBT => k_is)
    (case tBT => k_is)
    (case dBI => k_is)
    (case tBI => k_is)
    (case dWC => k_is)
    (case tWC => k_is)
    (case dSE => k_is)
    (case tSE => k_is)
    (case sBOSE => k_is)
    (case sBOBT => k_is)
    (case sBOWD => k_is)
    (case sBOBI => k_is)
    (case sWDSE => k_is)
    (case sWDBO => k_is)
    (case sWDWC => k_is)
    (case sSEBO => k_is)
    (case sSEWD => k_is)
    (case a_pool => k_is)
    (case l_pool => k_is)
    (case c_pool => k_is)
    (case k_pool => k_is)
    (case a_take => k_is)
    (case l_take => k_is)
    (case c_take => k_is)
    (case k_take => k_is)
    (case a_integer => k_is)
    (case l_integer => k_is)
    (case c_integer => k_is)
    (case k_integer => k_is)
    (case a_chk => k_is)
    (case l_chk => k_is)
    (case c_chk => k_is)
    (case k_chk => k_is)
    (case a_chke => k_is)
    (case l_chke => k_is)
    (case c_chke => k_is)
    (case k_chke => k_is)
    (case a_place => k_is)
    (case l_place => k_is)
    (case c_place => k_is)
    (case k_place => k_is)
    (case a_pair => k_is)
    (case l_pair => k_is)
    (case c_pair => k_is)
    (case k_pair => k_is)
    (case a_before => k_is)
    (case l_before => k_is)
    (case c_before => k_is)
    (case k_before => k_is)
    (case a_oinit => k_is)
    (case i_oinit => k_is)
    (case l_oinit => k_is)
    (case c_oinit => k_is)
    (case k_oinit => k_is)
    (case a_oplace => k_is)
    (case i_oplace => k_is)
    (case l_oplace => k_is)
    (case c_oplace => k_is)
    (case k_oplace => k_is)
    (case a_oprec => k_is)
    (case i_oprec => k_is)
    (case l_oprec => k_is)
    (case c_oprec => k_is)
    (case k_oprec => k_is)
    (case a_oarr => k_is)
    (case i_oarr => k_is)
    (case l_oarr => k_is)
    (case c_oarr => k_is)
    (case k_oarr => k_is)
    (case a_oeq => k_is)
    (case i_oeq => k_is)
    (case l_oeq => k_is)
    (case c_oeq => k_is)
    (case k_oeq => k_is)
    (case a_omons => k_is)
    (case l_omons => k_is)
    (case c_omons => k_is)
    (case k_omons => k_is)
    (case a_orank => k_is)
    (case l_orank => k_is)
    (case c_orank => k_is)
    (case k_orank => k_is)
    (case a_onear => k_is)
    (case l_onear => k_is)
    (case c_onear => k_is)
    (case k_onear => k_is)
    (case a_oword => k_is)
    (case l_oword => k_is)
    (case c_oword => k_is)
    (case k_oword => k_is)
    (case a_oearl => k_is)
    (case l_oearl => k_is)
    (case c_oearl => k_is)
    (case k_oearl => k_is)
    (case a_oasc => k_is)
    (case l_oasc => k_is)
    (case c_oasc => k_is)
    (case k_oasc => k_is)
    (case a_says => k_is)
    (case l_says => k_is)
    (case c_says => k_is)
    (case k_says => k_is)
    (case a_ois => k_is)
    (case l_ois => k_is)
    (case c_ois => k_is)
    (case k_ois => k_is)
    (case a_nord => k_is)
    (case l_nord => k_is)
    (case c_nord => k_is)
    (case k_nord => k_is)
    (case a_narr => k_is)
    (case l_narr => k_is)
    (case c_narr => k_is)
    (case k_narr => k_is)
    (case a_nprec => k_is)
    (case l_nprec => k_is)
    (case c_nprec => k_is)
    (case k_nprec => k_is)
    (case a_omade => k_is)
    (case l_omade => k_is)
    (case c_omade => k_is)
    (case k_omade => k_is)
    (case a_oarrs => k_is)
    (case l_oarrs => k_is)
    (case c_oarrs => k_is)
    (case k_oarrs => k_is)
    (case a_ounl => k_is)
    (case l_ounl => k_is)
    (case c_ounl => k_is)
    (case k_ounl => k_is)
    (case a_olaw => k_is)
    (case l_olaw => k_is)
    (case c_olaw => k_is)
    (case k_olaw => k_is)
    (case gfp => k_is)
    (case tkp => k_is)
    (case fip => k_is)

