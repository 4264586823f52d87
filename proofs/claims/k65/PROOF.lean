import PyProof.Rows.All
import Wide.All
import OpenK.AllK
import Wide.FinOn
import HandS.Text
import HandS.StrMore
import HandS.Codes
import HandS.ForMost
import HandS.ForExc
import HandS.Wide
import HandS.WideBits
import HandS.Gcd
import HandS.IsInst
import HandS.ExcIs
import HandS.Defaults
import KE.KOpsOwn
import HandS.OwnEq
import PyProof.Rows.Range3
import HandS.List
import HandS.ExcInit
import KE.KExcSuper
import HandS.Words
import HandS.WordsExc
import HandS.ExcOwn
import HandS.ClsMeth
import HandS.FStr
import HandS.Style
import HandS.ExcField
import KE.KCallOwn
import KE.KExcIs
import KE.KMethU
import PyProof.StrBlock2
import PyProof.Rows.StrFirst
import PyProof.Rows.StrCut
import PyProof.Rows.StrPartPair
import PyProof.Rows.StrDigitsNeg
import KE.IntTextLaws
import HandS.Walk
import PyProof.Rows.StrJoinRep
import KE.DataEq
import HandS.DictComp
import HandS.Conv
import HandS.DictTup
import KE.KDictKeyed
import HandS.TupLen
import KE.KMathGC
import PyProof.WalksMore
import PyProof.SumWalkG
import HandS.SortKw
import KE.SortKeyHeap
import HandS.Records
import HandS.MakeKw
import HandS.Strs
import KE.KFmtOwn
import KE.DataMinMax
import HandS.TupAny
import HandS.Comp
import HandS.Iter
import HandS.Zip
import HandS.Star
import HandS.SuiteRaise
import HandS.RaiseFrom
import KE.KTryMore
import HandS.ExcInitHot
import PySem.Challenge.RW_spotheights_k65_long_numbers_are_written
import KE.KExcLine
set_option Elab.async false
set_option linter.all false
set_option maxRecDepth 100000
set_option maxHeartbeats 2000000
/-! Texts of numbers, as lists of code points. -/
namespace SpX
open PySem PySem.Spec NumText
abbrev numD (n : Nat) : List Nat := TL.numL n
theorem num_lt {n : Nat} (h : n < 10) : numD n = [48 + n] := TL.numL_lt h
theorem num_step {n : Nat} (h : 10 ≤ n) : numD n = numD (n / 10) ++ [48 + n % 10] := TL.numL_step h
theorem num_ne (n : Nat) : numD n ≠ [] := TL.numL_ne n
theorem num_dig (n : Nat) : AllDigits (numD n) := TL.numL_digits n
theorem num_val (n : Nat) : digitsVal (numD n) = n := TL.numL_val n
theorem num_len {n k : Nat} (hk : 0 < k) (h : n < 10 ^ k) : (numD n).length ≤ k := TL.numL_len hk h
/-- digits without a zero ahead -/
structure Canon (x : List Nat) : Prop where
  dig : AllDigits x
  ne : x ≠ []
  lead : 1 < x.length → x.head? ≠ some 48
theorem snoc_rec {P : List Nat → Prop} (n0 : P []) (n1 : ∀ l a, P l → P (l ++ [a])) (l : List Nat) : P l := by
  have h : ∀ k : List Nat, P k.reverse := fun k => by
    induction k with
    | nil => exact n0
    | cons a k ih =>
      rw [List.reverse_cons]
      exact n1 _ _ ih
  have e := h l.reverse
  rwa [List.reverse_reverse] at e
theorem digitsVal_snoc (x : List Nat) (c : Nat) : digitsVal (x ++ [c]) = digitsVal x * 10 + (c - 48) := by
  unfold digitsVal
  rw [List.foldl_append]
  rfl
theorem digitsVal_append (x y : List Nat) : digitsVal (x ++ y) = digitsVal x * 10 ^ y.length + digitsVal y := by
  refine snoc_rec (P := fun y => digitsVal (x ++ y) = digitsVal x * 10 ^ y.length + digitsVal y) (by simp [digitsVal]) (fun y c ih => ?_) y
  rw [← List.append_assoc, digitsVal_snoc, digitsVal_snoc, ih, List.length_append, List.length_singleton, Nat.pow_succ, Nat.add_mul, Nat.mul_assoc]
  omega
theorem digitsVal_lt {x : List Nat} : AllDigits x → digitsVal x < 10 ^ x.length := by
  refine snoc_rec (P := fun x => AllDigits x → digitsVal x < 10 ^ x.length) (fun _ => by decide) (fun y c ih h => ?_) x
  have h1 := ih fun d hd => h d (List.mem_append_left _ hd)
  have h2 := h c (List.mem_append_right _ (List.mem_singleton.mpr rfl))
  rw [digitsVal_snoc, List.length_append, List.length_singleton, Nat.pow_succ]
  omega
theorem digitsVal_pos {x : List Nat} (h : AllDigits x) (hne : x ≠ []) (hl : x.head? ≠ some 48) : 1 ≤ digitsVal x := by
  cases x with
  | nil => exact absurd rfl hne
  | cons c r =>
    have hc := h.head
    have : c ≠ 48 := fun e => hl (by rw [e]; rfl)
    have e : digitsVal ([c] ++ r) = digitsVal [c] * 10 ^ r.length + digitsVal r := digitsVal_append [c] r
    have e1 : digitsVal [c] = c - 48 := by simp [digitsVal]
    have hp : 0 < 10 ^ r.length := Nat.pow_pos (by decide)
    show 1 ≤ digitsVal ([c] ++ r)
    rw [e, e1]
    have : 1 * 1 ≤ (c - 48) * 10 ^ r.length := Nat.mul_le_mul (by omega) hp
    omega
/-- digits without a zero ahead are the number's own -/
theorem canon_num {x : List Nat} : Canon x → numD (digitsVal x) = x := by
  refine snoc_rec (P := fun x => Canon x → numD (digitsVal x) = x) (fun h => absurd rfl h.ne) (fun y c ih h => ?_) x
  have hc := h.dig c (List.mem_append_right _ (List.mem_singleton.mpr rfl))
  rw [digitsVal_snoc]
  by_cases hy : y = []
  · subst hy
    have e1 : digitsVal [] = 0 := rfl
    rw [e1, Nat.zero_mul, Nat.zero_add, num_lt (by omega), List.nil_append]
    congr 1
    omega
  · have dy : AllDigits y := fun d hd => h.dig d (List.mem_append_left _ hd)
    have hh : (y ++ [c]).head? = y.head? := by
      cases y with
      | nil => exact absurd rfl hy
      | cons a r => rfl
    have hlen : 1 < (y ++ [c]).length := by
      rw [List.length_append, List.length_singleton]
      have := List.length_pos_iff.mpr hy
      omega
    have hne := h.lead hlen
    rw [hh] at hne
    have p := digitsVal_pos dy hy hne
    rw [num_step (by omega)]
    have e1 : (digitsVal y * 10 + (c - 48)) / 10 = digitsVal y := by omega
    have e2 : (digitsVal y * 10 + (c - 48)) % 10 = c - 48 := by omega
    rw [e1, e2, ih ⟨dy, hy, fun _ => hne⟩]
    congr 2
    omega
theorem num_canon (n : Nat) : Canon (numD n) := by
  refine ⟨TL.numL_digits n, num_ne n, ?_⟩
  induction n using Nat.strongRecOn with
  | _ n ih =>
    intro hl
    by_cases h : n < 10
    · rw [num_lt h] at hl
      exact absurd hl (by simp)
    · rw [num_step (n := n) (by omega)]
      have hne := num_ne (n / 10)
      have hh : (numD (n / 10) ++ [48 + n % 10]).head? = (numD (n / 10)).head? := by
        cases e : numD (n / 10) with
        | nil => exact absurd e hne
        | cons a r => rfl
      rw [hh]
      by_cases h2 : n / 10 < 10
      · rw [num_lt h2]
        intro e
        have := Option.some.inj e
        omega
      · have := ih (n / 10) (by omega)
        refine this ?_
        rw [num_step (n := n / 10) (by omega), List.length_append, List.length_singleton]
        have := List.length_pos_iff.mpr (num_ne (n / 10 / 10))
        omega
theorem num_head {n : Nat} (h : 1 ≤ n) : (numD n).head? ≠ some 48 := by
  by_cases hl : 1 < (numD n).length
  · exact (num_canon n).lead hl
  · have h9 : n < 10 := by
      have h1 := digitsVal_lt (num_dig n)
      rw [num_val] at h1
      have h2 : (numD n).length ≤ 1 := by omega
      have h3 : 10 ^ (numD n).length ≤ 10 ^ 1 := Nat.pow_le_pow_right (by decide) h2
      omega
    rw [num_lt h9]
    intro e
    have := Option.some.inj e
    omega
/-- a number with more digits behind: q * 10 ^ k + r, r written in k digits -/
theorem num_join {q k : Nat} {r : List Nat} (hq : 1 ≤ q) (hr : AllDigits r) (hk : r.length = k) : numD (q * 10 ^ k + digitsVal r) = numD q ++ r := by
  have hc : Canon (numD q ++ r) := by
    refine ⟨fun c hc => ?_, ?_, fun _ => ?_⟩
    · rcases List.mem_append.mp hc with h | h
      · exact TL.numL_digits q c h
      · exact hr c h
    · intro e
      exact num_ne q (List.append_eq_nil_iff.mp e).1
    · have hh : (numD q ++ r).head? = (numD q).head? := by
        cases e : numD q with
        | nil => exact absurd e (num_ne q)
        | cons a t => rfl
      rw [hh]
      exact num_head hq
  have e := canon_num hc
  rw [digitsVal_append, num_val q, hk] at e
  exact e
theorem zeros_val (m : Nat) (x : List Nat) : digitsVal (List.replicate m 48 ++ x) = digitsVal x := by
  have e : ∀ m, digitsVal (List.replicate m 48) = 0 := fun m => by
    induction m with
    | zero => rfl
    | succ m ih => rw [List.replicate_succ', digitsVal_snoc, ih]
  rw [digitsVal_append, e, Nat.zero_mul, Nat.zero_add]
theorem zeros_dig {m : Nat} {x : List Nat} (h : AllDigits x) : AllDigits (List.replicate m 48 ++ x) := fun c hc => by
  rcases List.mem_append.mp hc with h1 | h1
  · rw [(List.mem_replicate.mp h1).2]
    omega
  · exact h c h1
/-- the low k digits, zeros ahead -/
def padD (k n : Nat) : List Nat := List.replicate (k - (numD n).length) 48 ++ numD n
theorem padD_len {k n : Nat} (hk : 0 < k) (h : n < 10 ^ k) : (padD k n).length = k := by
  have := num_len hk h
  unfold padD
  rw [List.length_append, List.length_replicate]
  omega
theorem padD_val (k n : Nat) : digitsVal (padD k n) = n := by
  unfold padD
  rw [zeros_val]
  exact TL.numL_val n
theorem padD_dig (k n : Nat) : AllDigits (padD k n) := zeros_dig (TL.numL_digits n)
theorem num_pad {q k r : Nat} (hq : 1 ≤ q) (hk : 0 < k) (hr : r < 10 ^ k) : numD (q * 10 ^ k + r) = numD q ++ padD k r := by
  have e := num_join hq (padD_dig k r) (padD_len hk hr)
  rwa [padD_val] at e
theorem drop_zeros {m : Nat} {x : List Nat} (h : x.head? ≠ some 48) : (List.replicate m 48 ++ x).dropWhile (· == 48) = x := by
  induction m with
  | zero =>
    cases x with
    | nil => rfl
    | cons a r =>
      have : a ≠ 48 := fun e => h (by rw [e]; rfl)
      show (a :: r).dropWhile _ = _
      rw [List.dropWhile_cons, if_neg (by simpa using this)]
  | succ m ih =>
    rw [List.replicate_succ, List.cons_append, List.dropWhile_cons, if_pos (by decide)]
    exact ih
/-! ### the written form of a number, and the two ways to read it -/
/-- the text of t / b -/
def written (t b : Int) : List Nat := (if t < 0 then [45] else []) ++ numD t.natAbs ++ (if b = 1 then [] else 47 :: numD b.natAbs)
/-- up to the first sign 47, and what stands behind it -/
def part47 : List Nat → List Nat × Option (List Nat)
  | [] => ([], none)
  | c :: r => if c = 47 then ([], some r) else ((c :: (part47 r).1), (part47 r).2)
theorem part47_free {x : List Nat} (h : 47 ∉ x) : part47 x = (x, none) := by
  induction x with
  | nil => rfl
  | cons c r ih =>
    have hc : c ≠ 47 := fun e => h (by rw [e]; exact List.mem_cons_self)
    have hr : 47 ∉ r := fun e => h (List.mem_cons_of_mem _ e)
    unfold part47
    rw [if_neg hc, ih hr]
theorem part47_at {x y : List Nat} (h : 47 ∉ x) : part47 (x ++ 47 :: y) = (x, some y) := by
  induction x with
  | nil => rfl
  | cons c r ih =>
    have hc : c ≠ 47 := fun e => h (by rw [e]; exact List.mem_cons_self)
    have hr : 47 ∉ r := fun e => h (List.mem_cons_of_mem _ e)
    show part47 (c :: (r ++ 47 :: y)) = _
    unfold part47
    rw [if_neg hc, ih hr]
theorem part47_back (x : List Nat) : x = (part47 x).1 ++ (match (part47 x).2 with | none => [] | some y => 47 :: y) ∧ 47 ∉ (part47 x).1 := by
  induction x with
  | nil => exact ⟨rfl, by simp [part47]⟩
  | cons c r ih =>
    unfold part47
    by_cases h : c = 47
    · rw [if_pos h]
      exact ⟨by rw [h]; rfl, by simp⟩
    · rw [if_neg h]
      refine ⟨?_, ?_⟩
      · show c :: r = c :: ((part47 r).1 ++ _)
        rw [← ih.1]
      · intro hm
        rcases List.mem_cons.mp hm with e | e
        · exact h e.symm
        · exact ih.2 e
/-- a group of at most 60 digits without a zero ahead -/
def Group (x : List Nat) : Prop := Canon x ∧ x.length ≤ 60
theorem group_num {x : List Nat} (h : Group x) : numD (digitsVal x) = x := canon_num h.1
/-- the texts that are numbers: t / b in lowest terms, its parts of at most 60 digits -/
def IsNum (l : List Nat) (t b : Int) : Prop := l = written t b ∧ 0 < b ∧ Nat.gcd t.natAbs b.natAbs = 1 ∧ (numD t.natAbs).length ≤ 60 ∧ (numD b.natAbs).length ≤ 60
end SpX

set_option Elab.async false
set_option linter.all false
set_option maxRecDepth 100000
set_option maxHeartbeats 2000000
/-! Readings run by simp, from the outside in: one equation a construct. -/
namespace SpX
open PySem PySem.Spec L2

section
variable {D : Ends} {σ : L2.St} {H : Hp} {Q : VK} {R : Bool → Hp → Prop} {t u : TS} {te ta tb : TE} {tc tt tu : TT} {g : TG} {i : Nat} {v x y : V} {o : Option V} {r : R2} {K : PySem.W.Frag}
theorem x_seq : tSeq t u D σ H = t { D with nx := u D } σ H := rfl
theorem x_next : tNext D σ H = D.nx σ H := rfl
theorem x_asg : tAsg te g D σ H = te σ H (fun x H1 => g x σ H1 D.nx) := rfl
theorem x_name {Q : L2.St → Hp → Prop} : gName i v σ H Q = Q (σ.set i (some v)) H := rfl
theorem x_drop : tDrop te D σ H = te σ H (fun _ H1 => D.nx σ H1) := rfl
theorem x_ret : tRet te D σ H = te σ H D.rt := rfl
theorem x_if : tIfS tc t u D σ H = tc σ H (fun b H1 => if b = true then t D σ H1 else u D σ H1) := rfl
theorem x_var0 : tVar 0 (some v :: σ) H Q = Q v H := by
  unfold tVar
  simp
theorem x_varS : tVar (i + 1) (o :: σ) H Q = tVar i σ H Q := by
  unfold tVar
  simp
theorem x_c : tC v σ H Q = Q v H := rfl
theorem x_op : tOp r ta tb σ H Q = ta σ H (fun x H1 => tb σ H1 fun y H2 => r x y H2 Q) := rfl
theorem x_un {r : V → Hp → VK → Prop} : tUn r ta σ H Q = ta σ H (fun x H1 => r x H1 Q) := rfl
theorem x_I0 {g : Int → Int → V} {a b : Int} : rI0 g (.int a) (.int b) H Q = Q (g a b) H := by
  unfold rI0
  simp
theorem x_I {C : Int → Int → Prop} {g : Int → Int → V} {a b : Int} : rI C g (.int a) (.int b) H Q = (C a b ∧ Q (g a b) H) := by
  unfold rI
  simp
theorem x_U {g : Int → V} {a : Int} : rU g (.int a) H Q = Q (g a) H := by
  unfold rU
  simp
theorem x_test : tTest te σ H R = te σ H (fun x H' => ∃ k, x = .bl k ∧ R k H') := rfl
theorem x_B : tB te σ H R = te σ H (fun x H' => ∃ k, x = .bl k ∧ R k H') := rfl
theorem x_bl {b : Bool} {P : Bool → Prop} : (∃ k, V.bl b = .bl k ∧ P k) = P b := by simp
theorem x_not : tNot tt σ H R = tt σ H (fun c H1 => R (!c) H1) := rfl
theorem x_and : tAnd tt tu σ H R = tt σ H (fun c H1 => if c = true then tu σ H1 R else R false H1) := rfl
theorem x_or : tOr tt tu σ H R = tt σ H (fun c H1 => if c = true then R true H1 else tu σ H1 R) := rfl
theorem x_andV : tAndV ta tb σ H Q = ta σ H (fun x H1 => ∃ c, x = .bl c ∧ if c = true then tb σ H1 Q else Q (.bl false) H1) := rfl
theorem x_orV : tOrV ta tb σ H Q = ta σ H (fun x H1 => ∃ c, x = .bl c ∧ if c = true then Q (.bl true) H1 else tb σ H1 Q) := rfl
theorem x_notV : tNotV ta σ H Q = ta σ H (fun x H1 => ∃ c, x = .bl c ∧ Q (.bl (!c)) H1) := rfl
theorem x_ifE : tIf tt ta tb σ H Q = tt σ H (fun c H1 => if c = true then ta σ H1 Q else tb σ H1 Q) := rfl
theorem x_eqI {a b : Int} : rEq (.int a) (.int b) H Q = Q (.bl (decide (a = b))) H := by
  unfold rEq scal
  simp
theorem x_neI {a b : Int} : rNe (.int a) (.int b) H Q = Q (.bl (!decide (a = b))) H := by
  unfold rNe scal
  simp
theorem x_eqB {a b : Bool} : rEq (.bl a) (.bl b) H Q = Q (.bl (decide (a = b))) H := by
  unfold rEq scal
  simp
theorem x_neB {a b : Bool} : rNe (.bl a) (.bl b) H Q = Q (.bl (!decide (a = b))) H := by
  unfold rNe scal
  simp
theorem x_nil {QA : List V → Hp → Prop} : tNil σ H QA = QA [] H := rfl
theorem x_cons {ta : TE} {tr : TA} {QA : List V → Hp → Prop} : tCons ta tr σ H QA = ta σ H (fun x H1 => tr σ H1 fun xs H2 => QA (x :: xs) H2) := rfl
theorem x_cb {r : List V → Hp → VK → Prop} {t : TA} : tCB r t σ H Q = t σ H (fun vs H1 => r vs H1 Q) := rfl
theorem x_call {sp : Sp} {dvs : List V} {E : XK} {t : TA} : tCall sp dvs E t σ H Q = t σ H (fun vs H1 => sp (vs ++ dvs) H1 Q E) := rfl
theorem x_lst {t : TA} : tLst t σ H Q = t σ H (fun xs H1 => xs.length ≤ sizeLine ∧ ∀ p, H1 p = none → Q (.ref p) (upd H1 p (.lst xs))) := rfl
theorem x_tup {t : TA} : tTup t σ H Q = t σ H (fun xs H1 => xs.length ≤ sizeLine ∧ ∀ p, H1 p = none → Q (.ref p) (upd H1 p (.tup xs))) := rfl
theorem x_gsub {to ti : TE} {ts : TSet} {Q : L2.St → Hp → Prop} : gSub to ti ts v σ H Q = to σ H (fun o H1 => ti σ H1 fun i H2 => ts o i v H2 fun H3 => Q σ H3) := rfl
theorem x_sl {r : V → Option Int → Option Int → Hp → VK → Prop} {tl th : TO} : tSl r te tl th σ H Q = te σ H (fun x H1 => tl σ H1 fun l H2 => th σ H2 fun u H3 => r x l u H3 Q) := rfl
theorem x_part {QO : Option Int → Hp → Prop} : tPart te σ H QO = te σ H (fun x H1 => ∃ i, x = .int i ∧ QO (some i) H1) := rfl
theorem x_nopart {QO : Option Int → Hp → Prop} : tNoPart σ H QO = QO none H := rfl
theorem x_int {a : Int} {P : Int → Prop} : (∃ k, V.int a = .int k ∧ P k) = P a := by simp
theorem x_set0 {α : Type} {a b : α} {l : List α} : (a :: l).set 0 b = b :: l := rfl
theorem x_setS {α : Type} {a b : α} {l : List α} : (a :: l).set (i + 1) b = a :: l.set i b := rfl

/-! ### reads of what is tracked -/
theorem SqL.at {p : Addr} {xs : List V} (h : H p = some (.lst xs)) : SqL K H p xs := .inl (.inl h)
theorem SqT.at {p : Addr} {xs : List V} (h : H p = some (.tup xs)) : SqT K H p xs := .inl (.inl h)
end
end SpX

set_option Elab.async false
set_option linter.all false
set_option maxRecDepth 100000
set_option maxHeartbeats 4000000
/-! Operators of a class of the text's own: the rules for instances beside instances and ints. -/
namespace SpX
open PySem PySem.Spec PyProof.Rows L2
section
variable {X : Cx} {CX : CXT} {k : Nat} {f C : Addr} {fd : FuncData} {ps : List Str} {sp : Sp} {E : XK} {op : Operator}

/-- // by a divisor of either sign -/
def CDivF (_ j : Int) : Prop := j ≠ 0 ∧ j.natAbs.log2 < 9000
theorem op_fdivF : OpR X (binaryOp .FloorDiv) (rI CDivF fun i j => .int (i.fdiv j)) := opI fun i j _ _ _ _ _ hc q => PyProof.Rows.floordiv_int hc.1 q (.inl (PyProof.noPylong_of_log2 hc.2))

theorem ep_back {pins : List (Addr × Obj)} {σ : L2.St} {Q : VK} {u : Value} {s' : Shared} (h : EP X pins σ Q u s') : PySem.W.CmpBack (EP X pins σ Q) u s' := by
  cases u with
  | notImplemented =>
    obtain ⟨v, H', I, r, q⟩ := h
    cases v <;> first
      | exact nomatch (show Value.notImplemented = _ from r)
      | exact (let ⟨_, e⟩ := (show ∃ t, Value.notImplemented = _ from r); nomatch e)
  | _ => exact h

/-- what the text must say of the operator op of the class at C: f its method -/
structure OwnOp (K : PySem.W.Frag) (C : Addr) (op : Operator) (f : Addr) : Prop where
  hs : PySem.W.findIn K (.ref C) (PySem.dunder op.info.2) = some (some (.ref f))
  hf : PySem.W.isFn K (.ref f) = true
  hc : PySem.W.selfFirst K C = true
/-- .. beside an int -/
structure OwnInt (K : PySem.W.Frag) (C : Addr) (op : Operator) : Prop where
  hr : ∃ rc, PySem.W.findIn K (.ref C) (dunderR op.info.2) = some rc ∧ (rc = none ∨ ∃ g : Addr, rc = some (.ref g))
  h1 : ∃ fo, PySem.W.findIn K (.type "int") (PySem.dunder op.info.2) = some fo
  h2 : ∃ ro, PySem.W.findIn K (.type "int") (dunderR op.info.2) = some ro
  hsub : PySem.W.subIn K (.type "int") (.ref C) = some false

/-- instance op instance -/
def rOwn2 (C : Addr) (sp : Sp) (E : XK) : R2 := fun x y H Q => ∃ a b dx dy fs gs, x = .ref a ∧ y = .ref b ∧ H a = some (.ins C dx fs) ∧ H b = some (.ins C dy gs) ∧ sp [.ref a, .ref b] H Q E
theorem op_own2 (O : OwnOp X.K C op f) (F : FnOk X.prog X.w X.K X.mg X.base CX k f fd ps sp) (hr : Room k X.A) (hb : Binds X.K fd ps []) (hx : Passes CX X E) : OpR X (binaryOp op) (rOwn2 C sp E) := by
  intro pins s σ H x y v u Q I rx ry h
  obtain ⟨a, b, dx, dy, fs, gs, rfl, rfl, ha, hb', hsp⟩ := h
  cases rx
  cases ry
  obtain ⟨mA, J, _⟩ := ins_get I.hok ha
  obtain ⟨mB, J', _⟩ := ins_get I.hok hb'
  obtain ⟨od, J, _⟩ := J.look
  obtain ⟨od', J', _⟩ := J'.look
  obtain ⟨m, hF⟩ := I.fr
  refine PySem.W.binop_K hF I.ok.mod.kin J J'.type O.hc O.hs O.hf ?_
  refine thn (run_fn (us := [.ref a, .ref b]) (vs := [.ref a, .ref b]) (dvs := []) F hr hb .nil hx I (.cons rfl (.cons rfl .nil)) hsp) fun u s' q => ep_back q
/-- instance op int -/
def rOwnI (C : Addr) (sp : Sp) (E : XK) : R2 := fun x y H Q => ∃ a i dx fs, x = .ref a ∧ y = .int i ∧ H a = some (.ins C dx fs) ∧ sp [.ref a, .int i] H Q E
theorem op_ownI (O : OwnOp X.K C op f) (N : OwnInt X.K C op) (F : FnOk X.prog X.w X.K X.mg X.base CX k f fd ps sp) (hr : Room k X.A) (hb : Binds X.K fd ps []) (hx : Passes CX X E) : OpR X (binaryOp op) (rOwnI C sp E) := by
  intro pins s σ H x y v u Q I rx ry h
  obtain ⟨a, i, dx, fs, rfl, rfl, ha, hsp⟩ := h
  cases rx
  obtain ⟨t, rfl⟩ := ry
  obtain ⟨mA, J, _⟩ := ins_get I.hok ha
  obtain ⟨od, J, _⟩ := J.look
  obtain ⟨m, hF⟩ := I.fr
  obtain ⟨rc, h3, h4⟩ := N.hr
  obtain ⟨fo, h1⟩ := N.h1
  obtain ⟨ro, h2⟩ := N.h2
  refine PySem.W.ksp_binT (T := "int") hF I.ok.mod.kin J rfl O.hc O.hs O.hf h3 h4 h1 h2 N.hsub ?_
  refine thn (run_fn (us := [.ref a, .int i t]) (vs := [.ref a, .int i]) (dvs := []) F hr hb .nil hx I (.cons rfl (.cons ⟨t, rfl⟩ .nil)) hsp) fun u s' q => ep_back q
/-- - instance -/
def rOwnU (C : Addr) (sp : Sp) (E : XK) : V → Hp → VK → Prop := fun x H Q => ∃ a dx fs, x = .ref a ∧ H a = some (.ins C dx fs) ∧ sp [.ref a] H Q E
theorem un_own (hs : PySem.W.findIn X.K (.ref C) "__neg__" = some (some (.ref f))) (hf : PySem.W.isFn X.K (.ref f) = true) (F : FnOk X.prog X.w X.K X.mg X.base CX k f fd ps sp) (hr : Room k X.A) (hb : Binds X.K fd ps []) (hx : Passes CX X E) :
    UnR X (unaryOp .USub) (rOwnU C sp E) := by
  intro pins s σ H x v Q I rx h
  obtain ⟨a, dx, fs, rfl, ha, hsp⟩ := h
  cases rx
  obtain ⟨mA, J, _⟩ := ins_get I.hok ha
  obtain ⟨od, J, _⟩ := J.look
  obtain ⟨m, hF⟩ := I.fr
  refine PySem.W.ksp_neg hF I.ok.mod.kin J hs hf ?_
  exact run_fn (us := [.ref a]) (vs := [.ref a]) (dvs := []) F hr hb .nil hx I (.cons rfl .nil) hsp

/-- the callee runs below a builtin -/
theorem run_fnA {A : Around} {pins : List (Addr × Obj)} {σ : L2.St} {H : Hp} {s : Shared} {Q : VK} {us : List Value} {vs : List V} (sb : Sub X k A) (F : FnOk X.prog X.w X.K X.mg X.base CX k f fd ps sp) (hb : Binds X.K fd ps []) (hx : Passes CX X E)
    (I : Inv X pins σ H s) (r : Vals vs us) (h : sp vs H Q E) : wpAny (model X.prog X.w) A (call (.ref f) us) (EP X pins σ Q) X.xe s := by
  have e0 : Env0 X.prog X.w X.K X.mg X.base A X.stack s H := by
    have e := I.env0
    exact ⟨by rw [sb.fr]; exact e.frames, e.mod, e.bs, e.bsz, e.funs, e.frf, e.hok, e.bare⟩
  have hl := F.len _ _ _ _ h
  have b := hb s us I.kIn (by rw [List.append_nil, ← r.length]; exact hl)
  rw [List.append_nil] at b
  refine wpAny_call (codeAny_mono (F.run A X.stack s H ⟨us, []⟩ us vs Q E sb.room e0 b r h) fun r s' hq => ?_)
  cases r with
  | error e => exact hx pins σ H s e s' I hq
  | ok fl =>
    cases fl with
    | ret u => exact I.after hq
    | next => exact False.elim hq
    | brk => exact False.elim hq
    | cont => exact False.elim hq
/-- abs(instance) -/
def rOwnAbs (C : Addr) (sp : Sp) (E : XK) : List V → Hp → VK → Prop := fun xs H Q => ∃ a dx fs, xs = [.ref a] ∧ H a = some (.ins C dx fs) ∧ sp [.ref a] H Q E
theorem call_absOwn (hs : PySem.W.findIn X.K (.ref C) "__abs__" = some (some (.ref f))) (hf : PySem.W.isFn X.K (.ref f) = true) (F : FnOk X.prog X.w X.K X.mg X.base CX k f fd ps sp) (hr : Room (k + 1) X.A) (hb : Binds X.K fd ps []) (hx : Passes CX X E) :
    CallR X (.builtin "abs") (rOwnAbs C sp E) := by
  intro pins s σ H xs us Q I r h
  obtain ⟨a, dx, fs, rfl, ha, hsp⟩ := h
  obtain ⟨u, rfl, rx⟩ := vals1 r
  cases rx
  obtain ⟨mA, J, _⟩ := ins_get I.hok ha
  obtain ⟨od, J, _⟩ := J.look
  refine PySem.Calls.call_function_entry kind_abs plain_abs entry_abs (args_abs _) ?_
  unfold Builtin.«abs»
  refine wpAny_bind (m := oneArg "abs" _) (wpAny_pure ?_)
  refine wpAny_bind (m := callSpecial? (.ref a) (Str.ofString "__abs__")) (PySem.W.special_fn I.kIn J hs (beq_iff_eq.mp hf) ?_)
  have sb : Sub X k X.A.in1 := Sub.in1 ⟨hr, rfl⟩
  refine thn (run_fnA (us := [.ref a]) (vs := [.ref a]) sb F hb hx I (.cons rfl .nil) hsp) fun u s' q => ?_
  exact wpAny_pure ⟨_, rfl, q⟩
/-- bool(instance) -/
def rOwnBool (C : Addr) (sp : Sp) (E : XK) : List V → Hp → VK → Prop := fun xs H Q => ∃ a dx fs, xs = [.ref a] ∧ H a = some (.ins C dx fs) ∧ sp [.ref a] H (fun v H' => ∃ b, v = .bl b ∧ Q (.bl b) H') E
theorem truthy_own {A : Around} {pins : List (Addr × Obj)} {s : Shared} {σ : L2.St} {H : Hp} {a dx : Addr} {fs : List (Str × V)} {Q : Bool → Hp → Prop} (sb : Sub X k A) (hs : PySem.W.findIn X.K (.ref C) "__bool__" = some (some (.ref f))) (hf : PySem.W.isFn X.K (.ref f) = true) (F : FnOk X.prog X.w X.K X.mg X.base CX k f fd ps sp)
    (hb : Binds X.K fd ps []) (hx : Passes CX X E) (I : Inv X pins σ H s) (ha : H a = some (.ins C dx fs)) (h : sp [.ref a] H (fun v H' => ∃ b, v = .bl b ∧ Q b H') E) : wpAny (model X.prog X.w) A (truthy (.ref a)) (TP X pins σ Q) X.xe s := by
  obtain ⟨mA, J, _⟩ := ins_get I.hok ha
  obtain ⟨od, J, _⟩ := J.look
  obtain ⟨m, hF⟩ := I.fr
  refine PySem.W.truthy_K hF I.ok.mod.kin J hs hf ?_
  refine thn (run_fnA (us := [.ref a]) (vs := [.ref a]) sb F hb hx I (.cons rfl .nil) h) fun u s' q => ?_
  obtain ⟨v, H', I', r, b, rfl, q⟩ := q
  cases r
  exact ⟨H', I', q⟩
theorem call_boolOwn (hs : PySem.W.findIn X.K (.ref C) "__bool__" = some (some (.ref f))) (hf : PySem.W.isFn X.K (.ref f) = true) (F : FnOk X.prog X.w X.K X.mg X.base CX k f fd ps sp) (hr : Room (k + 2) X.A) (hb : Binds X.K fd ps []) (hx : Passes CX X E) :
    CallR X (.type "bool") (rOwnBool C sp E) := by
  intro pins s σ H xs us Q I r h
  obtain ⟨a, dx, fs, rfl, ha, hsp⟩ := h
  obtain ⟨u, rfl, rx⟩ := vals1 r
  cases rx
  have sb : Sub X k X.A.in1.in1 := Sub.in1 (Sub.in1 (⟨hr, rfl⟩ : Sub X (k + 2) X.A))
  refine callType_newIn (S := fun A R s => wpAny (model X.prog X.w) A.in1 (truthy (.ref a)) (fun b s' => R (.ok (.ret (.bool b))) s') (fun e s' => R (.error e) s') s)
    PySem.F.called_bool PySem.F.newNe_bool (PySem.F.typeCall_bool_1 _) (PySem.F.newCall_bool_1 _) (fun obj => PySem.F.args_object_init_2 obj _) PySem.F.entry_bool_new ?_ ?_
  · intro A R s h
    obtain ⟨hp, g, d, tk, os⟩ := s
    have f1 := PySem.F.conv_sub_bool
    unfold Builtin.«bool.__new__»
    repeat (any_goals (first | assumption | with_reducible refine wpAny_mono h (fun b s' q => ?_) (fun _ _ x => x) | wp_step))
  · refine thn (truthy_own (Q := fun b H' => Q (.bl b) H') sb hs hf F hb hx I ha hsp) fun b s' q => ?_
    obtain ⟨H', I', q⟩ := q
    exact ⟨PySem.typeIs_bool _ _, ⟨.bl b, H', I', rfl, q⟩⟩
/-! ### int op instance: the instance's reflected method -/
theorem int_declines {prog : Program} {w : World} {A : Around} {E' : Value → Shared → Prop} {s : Shared} {nm : String} {g : Int → Int → Sem Fin} {i : Int} {t : Tok} {x C dx : Addr} {Q : Fin → Shared → Prop}
    (hsl : slotArgs nm 1 ⟨[.int i t, .ref x], []⟩ = pure (.int i t, [.ref x])) (hx : s.heap.get? x = some (PySem.W.instObj C dx)) (h : Q (.done (.ret .notImplemented)) s) :
    wpAny (model prog w) A (Builtin.Int.intBinary nm g false ⟨[.int i t, .ref x], []⟩) Q E' s := by
  unfold Builtin.Int.intBinary
  rw [hsl]
  refine wpAny_bind (wpAny_pure ?_)
  refine wpAny_bind (m := Builtin.Int.intOfSelf _) (wpAny_pure ?_)
  refine wpAny_bind (m := asInt? (.ref x)) ?_
  unfold asInt?
  refine wpAny_bind (wpAny_load hx (wpAny_pure ?_))
  refine wpAny_bind (wpAny_rule (wpAny_pure h))

end
end SpX

set_option Elab.async false
set_option linter.all false
set_option maxRecDepth 100000
set_option maxHeartbeats 2000000
/-! Readings of built-ins by short names; what stays of a heap. -/
namespace SpX
open PySem PySem.Spec L2
def rLen1 (K : PySem.W.Frag) : List V → Hp → VK → Prop := fun xs H Q => ∃ p ys, xs = [.ref p] ∧ (SqL K H p ys ∨ SqT K H p ys) ∧ Q (.int ys.length) H
def rList1 (K : PySem.W.Frag) : List V → Hp → VK → Prop := fun xs H Q => ∃ p ys, xs = [.ref p] ∧ (SqL K H p ys ∨ SqT K H p ys) ∧ ∀ l, H l = none → Q (.ref l) (upd H l (.lst ys))
def rInt1 : List V → Hp → VK → Prop := fun xs H Q => (∃ i, xs = [.int i] ∧ Q (.int i) H) ∨ ∃ k, xs = [.bl k] ∧ Q (.int (if k then 1 else 0)) H
def rBool1 : List V → Hp → VK → Prop := fun xs H Q => (∃ i, xs = [.int i] ∧ Q (.bl (i != 0)) H) ∨ ∃ k, xs = [.bl k] ∧ Q (.bl k) H
def rAbs1 : List V → Hp → VK → Prop := fun xs H Q => ∃ i, xs = [.int i] ∧ Q (.int (if i < 0 then -i else i)) H
def rMax2 : List V → Hp → VK → Prop := fun xs H Q => ∃ i j, xs = [.int i, .int j] ∧ Q (.int (if j > i then j else i)) H
def rMin2 : List V → Hp → VK → Prop := fun xs H Q => ∃ i j, xs = [.int i, .int j] ∧ Q (.int (if j < i then j else i)) H
section
variable {D : Ends} {σ : L2.St} {H : Hp} {Q : VK} {a b : Int}
theorem x_int1 : rInt1 [.int a] H Q = Q (.int a) H := by
  unfold rInt1
  simp
theorem x_abs1 : rAbs1 [.int a] H Q = Q (.int (if a < 0 then -a else a)) H := by
  unfold rAbs1
  simp
theorem x_max2 : rMax2 [.int a, .int b] H Q = Q (.int (if b > a then b else a)) H := by
  exact propext ⟨fun ⟨_, _, e, q⟩ => by cases e; exact q, fun q => ⟨_, _, rfl, q⟩⟩
theorem x_gcd : rGcd [.int a, .int b] H Q = Q (.int ((Nat.gcd a.natAbs b.natAbs : Nat) : Int)) H := by
  exact propext ⟨fun ⟨_, _, e, q⟩ => by cases e; exact q, fun q => ⟨_, _, rfl, q⟩⟩
end
section
variable {X : Cx}
theorem op_mulI : OpR X (binaryOp .Mult) (rI IntMulOk fun i j => .int (i * j)) := opI fun _ _ _ _ _ _ _ hc q => PyProof.Rows.mul_int q hc
end
theorem mul_lit {i j : Int} (h : -(2 ^ 64) < j ∧ j < 2 ^ 64) : IntMulOk i j := CMul.ok (.inr h)
theorem mul_lit' {i j : Int} (h : -(2 ^ 64) < i ∧ i < 2 ^ 64) : IntMulOk i j := CMul.ok (.inl h)
theorem mul_wide {i j : Int} {a b : Nat} (ha : i.natAbs < 2 ^ a) (hb : j.natAbs < 2 ^ b) (h0 : 0 < a) (h1 : 0 < b) (h : a + b ≤ 1000000) : IntMulOk i j := (wide_mul ha hb h0 h1 h).ok
/-! ### tracked lists and tuples alone: the readings are equations -/
def rIx1 : R2 := fun x y H Q => ∃ p xs i v, x = .ref p ∧ y = .int i ∧ (H p = some (.lst xs) ∨ H p = some (.tup xs)) ∧ atI xs i = some v ∧ Q v H
def rLenA : List V → Hp → VK → Prop := fun vs H Q => ∃ p xs, vs = [.ref p] ∧ (H p = some (.lst xs) ∨ H p = some (.tup xs)) ∧ Q (.int xs.length) H
def rListA : List V → Hp → VK → Prop := fun vs H Q => ∃ p xs, vs = [.ref p] ∧ (H p = some (.lst xs) ∨ H p = some (.tup xs)) ∧ ∀ l, H l = none → Q (.ref l) (upd H l (.lst xs))
def rSlA : V → Option Int → Option Int → Hp → VK → Prop := fun x lo hi H Q => ∃ p xs, x = .ref p ∧ H p = some (.lst xs) ∧ ∀ q, H q = none → Q (.ref q) (upd H q (.lst (cutV xs lo hi)))
section
variable {X : Cx}
theorem ix_1 : IxR X rIx1 := by
  intro value slice pins s σ H x y v u Q I rx ry h hs
  obtain ⟨p, xs, i, w, rfl, rfl, h1 | h1, h2, q⟩ := h
  · exact ix_list value slice pins s σ H _ _ v u Q I rx ry ⟨p, xs, i, w, rfl, rfl, .inl (.inl h1), h2, q⟩ hs
  · exact ix_tup value slice pins s σ H _ _ v u Q I rx ry ⟨p, xs, i, w, rfl, rfl, .inl (.inl h1), h2, q⟩ hs
theorem call_lenA : CallR X (.builtin "len") rLenA := by
  intro pins s σ H xs us Q I r h
  obtain ⟨p, ys, rfl, h1 | h1, q⟩ := h
  · exact call_len_seq pins s σ H _ us Q I r ⟨p, ys, rfl, .inl (.inl (.inl h1)), q⟩
  · exact call_len_seq pins s σ H _ us Q I r ⟨p, ys, rfl, .inr (.inl (.inl h1)), q⟩
theorem call_listA : CallR X (.type "list") rListA := by
  intro pins s σ H xs us Q I r h
  obtain ⟨p, ys, rfl, h1 | h1, q⟩ := h
  · exact call_list_of pins s σ H _ us Q I r ⟨p, ys, rfl, .inl (.inl (.inl h1)), q⟩
  · exact call_list_of pins s σ H _ us Q I r ⟨p, ys, rfl, .inr (.inl (.inl h1)), q⟩
theorem sl_A : SlR X rSlA := by
  intro pins s σ H x v vl vu lo hi sl Q I rx rs rl rh h
  obtain ⟨p, ys, rfl, h1, q⟩ := h
  exact sl_list pins s σ H _ v vl vu lo hi sl Q I rx rs rl rh ⟨p, ys, rfl, .inl (.inl h1), q⟩
end
section
variable {σ : L2.St} {H : Hp} {Q : VK} {p : Addr} {xs ys : List V} {i : Int} {v : V}
theorem x_ix (h : H p = some (.lst xs)) (ha : atI xs i = some v) : rIx1 (.ref p) (.int i) H Q = Q v H := propext (Iff.intro
  (fun ⟨_, _, _, _, e1, e2, h1, h2, q⟩ => by
    cases e1; cases e2
    rw [h] at h1
    rcases h1 with h1 | h1
    · cases h1
      rw [ha] at h2
      cases h2
      exact q
    · cases h1)
  (fun q => ⟨_, _, _, _, rfl, rfl, .inl h, ha, q⟩))

theorem x_ixT (h : H p = some (.tup xs)) (ha : atI xs i = some v) : rIx1 (.ref p) (.int i) H Q = Q v H := propext (Iff.intro
  (fun ⟨_, _, _, _, e1, e2, h1, h2, q⟩ => by
    cases e1; cases e2
    rw [h] at h1
    rcases h1 with h1 | h1
    · cases h1
    · cases h1
      rw [ha] at h2
      cases h2
      exact q)
  (fun q => ⟨_, _, _, _, rfl, rfl, .inr h, ha, q⟩))

theorem x_lenA (h : H p = some (.lst xs)) : rLenA [.ref p] H Q = Q (.int xs.length) H := propext (Iff.intro
  (fun ⟨_, _, e1, h1, q⟩ => by
    cases e1
    rw [h] at h1
    rcases h1 with h1 | h1
    · cases h1
      exact q
    · cases h1)
  (fun q => ⟨_, _, rfl, .inl h, q⟩))

theorem x_listA (h : H p = some (.lst xs)) : rListA [.ref p] H Q = ∀ l, H l = none → Q (.ref l) (upd H l (.lst xs)) := propext (Iff.intro
  (fun ⟨_, _, e1, h1, q⟩ => by
    cases e1
    rw [h] at h1
    rcases h1 with h1 | h1
    · cases h1
      exact q
    · cases h1)
  (fun q => ⟨_, _, rfl, .inl h, q⟩))

theorem x_slA {lo hi : Option Int} (h : H p = some (.lst xs)) : rSlA (.ref p) lo hi H Q = ∀ q, H q = none → Q (.ref q) (upd H q (.lst (cutV xs lo hi))) := propext (Iff.intro
  (fun ⟨_, _, e1, h1, q⟩ => by
    cases e1
    rw [h] at h1
    cases h1
    exact q)
  (fun q => ⟨_, _, rfl, h, q⟩))

theorem x_setL {k : Int} {j : Nat} {QQ : Hp → Prop} (h : H p = some (.lst xs)) (hj : ixN xs.length k = some j) : rSetL (.ref p) (.int k) v H QQ = QQ (upd H p (.lst (xs.set j v))) := propext (Iff.intro
  (fun ⟨_, _, _, _, e1, e2, h1, h2, q⟩ => by
    cases e1; cases e2
    rw [h] at h1
    cases h1
    rw [hj] at h2
    cases h2
    exact q)
  (fun q => ⟨_, _, _, _, rfl, rfl, h, hj, q⟩))

theorem x_cat {q : Addr} (h : H p = some (.lst xs)) (h' : H q = some (.lst ys)) (hz : xs.length + ys.length ≤ sizeLine) : rCat (.ref p) (.ref q) H Q = ∀ l, H l = none → Q (.ref l) (upd H l (.lst (xs ++ ys))) := propext (Iff.intro
  (fun ⟨_, _, _, _, e1, e2, h1, h2, _, q⟩ => by
    cases e1; cases e2
    rw [h] at h1
    rw [h'] at h2
    cases h1; cases h2
    exact q)
  (fun q => ⟨_, _, _, _, rfl, rfl, h, h', hz, q⟩))

theorem x_tbm {T : String} {K : PySem.W.Frag} {r : V → List V → Hp → VK → Prop} {to : TE} {t : TA} : tBM K T r to t σ H Q = to σ H (fun x H1 => tyV K T x H1 ∧ t σ H1 fun xs H2 => r x xs H2 Q) := rfl
theorem x_append (h : H p = some (.lst xs)) (hz : xs.length < sizeLine) : rAppend (.ref p) [v] H Q = Q .non (upd H p (.lst (xs ++ [v]))) := propext (Iff.intro
  (fun ⟨_, _, _, e1, e2, h1, _, q⟩ => by
    cases e1; cases e2
    rw [h] at h1
    cases h1
    exact q)
  (fun q => ⟨_, _, _, rfl, rfl, h, hz, q⟩))

end
theorem ty_lst {K : PySem.W.Frag} {H : Hp} {p : Addr} {xs : List V} (h : H p = some (.lst xs)) : tyV K "list" (.ref p) H := .inl ⟨rfl, _, .inl (.inl h)⟩
/-- all that was tracked, but for what stands at p, is as it was -/
def Keep (p : Addr) (H H' : Hp) : Prop := ∀ b o, b ≠ p → H b = some o → H' b = some o
theorem Keep.refl (p : Addr) (H : Hp) : Keep p H H := fun _ _ _ h => h
theorem Keep.trans {p : Addr} {H H1 H2 : Hp} (a : Keep p H H1) (b : Keep p H1 H2) : Keep p H H2 := fun c o n h => b c o n (a c o n h)
theorem Keep.of {p : Addr} {H H1 : Hp} (a : Same H H1) : Keep p H H1 := fun c o _ h => a c o h
theorem Same.new {H : Hp} {p : Addr} {o : HO} (h : H p = none) : Same H (upd H p o) := fun a u e => by
  rw [upd_ne (ne_of_none e h)]
  exact e
theorem Same.new' {H H1 : Hp} {p : Addr} {o : HO} (s : Same H H1) (h : H1 p = none) : Same H (upd H1 p o) := s.trans (Same.new h)
theorem Keep.new {q : Addr} {H H1 : Hp} {p : Addr} {o : HO} (s : Keep q H H1) (h : H1 p = none) : Keep q H (upd H1 p o) := s.trans (Keep.of (Same.new h))
theorem Keep.at {q : Addr} {H H1 : Hp} {o : HO} (s : Keep q H H1) : Keep q H (upd H1 q o) := fun c u n h => by
  rw [upd_ne n]
  exact s c u n h
/-- two tracked things of unlike kinds -/
theorem lst_tup {H : Hp} {a b : Addr} {xs ys : List V} (h : H a = some (.lst xs)) (h' : H b = some (.tup ys)) : b ≠ a := fun e => by
  subst e
  rw [h] at h'
  cases h'
theorem atI_0 {v : V} {xs : List V} : atI (v :: xs) 0 = some v := by
  show atI (v :: xs) ((0 : Nat) : Int) = some v
  exact atI_nat rfl
theorem sl5 {n : Nat} (h : n ≤ 1000) : n ≤ sizeLine := Nat.le_trans h (by decide)
end SpX

set_option Elab.async false
set_option linter.all false
set_option maxRecDepth 100000
set_option maxHeartbeats 2000000
/-! A def whose first row is super().__init__('..') of an own exception over ValueError: its frame, that row, its promise. -/
namespace SpX
open PySem PySem.Spec PyProof.Rows L2

theorem rl_out {x : Str} : ∀ {l : List (Str × Value)}, (∀ v, (x, v) ∉ l) → l.lookup x = none := fun {l} h => by
  induction l with
  | nil => rfl
  | cons p r ih =>
    obtain ⟨n, v⟩ := p
    have hn : x ≠ n := fun e => h v (by rw [e]; exact List.mem_cons_self)
    rw [List.lookup_cons, show (x == n) = false from beq_eq_false_iff_ne.mpr hn]
    exact ih fun w hw => h w (List.mem_cons_of_mem _ hw)
theorem rl_get {x : Str} {v : Value} : ∀ {P : List Str} {vs : List Value} {i : Nat}, P.Nodup → P[i]? = some x → vs[i]? = some v → (P.zip vs).reverse.lookup x = some v
  | [], _, _, _, h, _ => by simp at h
  | _ :: _, [], _, _, _, h => by simp at h
  | p :: P, u :: vs, 0, nd, h1, h2 => by
    simp at h1 h2
    subst h1
    subst h2
    rw [List.zip_cons_cons, List.reverse_cons, List.lookup_append, rl_out fun v hv => (List.nodup_cons.mp nd).1 (List.of_mem_zip (List.mem_reverse.mp hv)).1]
    simp [List.lookup]
  | p :: P, u :: vs, i + 1, nd, h1, h2 => by
    rw [List.zip_cons_cons, List.reverse_cons, List.lookup_append, rl_get (i := i) (List.nodup_cons.mp nd).2 (by simpa using h1) (by simpa using h2)]
    rfl

structure SupScope (N P : List Str) (sc : Scope) : Prop where
  kind : sc.kind = .function
  co : sc.isCoroutine = false
  gen : sc.isGenerator = false
  nd : N.Nodup
  pre : N.take P.length = P
  par : ∀ x ∈ P, sc.names.lookup x = some .local
  nocell : ∀ y ∈ sc.names, y.2 ≠ .cell
  free : ∀ y ∈ sc.names, y.2 = .free → y.1 = "__class__"
  sup : sc.names.lookup ("super" : Str) = some .globalImplicit
  cls : sc.names.lookup ("__class__" : Str) = some .free

def cxSup (CX : CXT) (P : Program) (w : World) (K : PySem.W.Frag) (mg : Str → Option Value) (base : Heap) (N : List Str) (qual : Str) (scope : Scope) (f : Addr) (cd : Value) (cc : Addr) (A : Around) (outer : List Env) (s : Shared) (H : Hp) (E : XK) : Cx where
  prog := P
  w := w
  K := K
  mg := mg
  base := base
  A := A.deeper (PySem.W.ksEnv qual scope s.heap.objs.size f cd cc)
  N := N
  s_0 := s
  H_0 := H
  env := PySem.W.ksEnv qual scope s.heap.objs.size f cd cc
  outer := outer
  stack := PySem.W.ksEnv qual scope s.heap.objs.size f cd cc :: outer
  ex := []
  calm := true
  fn := fun x => x != "__class__"
  pn := []
  xe := fun e s' => wpAny (model P w) (A.deeper (PySem.W.ksEnv qual scope s.heap.objs.size f cd cc)) (leaving (PySem.W.ksEnv qual scope s.heap.objs.size f cd cc) e) (fun _ s'' => CX outer H s E e s'') (fun e' s'' => CX outer H s E e' s'') s'

section
variable {CX : CXT} {P : Program} {w : World} {K : PySem.W.Frag} {mg : Str → Option Value} {base : Heap} {N ps : List Str} {qual : Str} {scope : Scope} {f cc : Addr} {cd : Value} {A : Around} {outer : List Env} {s : Shared} {H : Hp} {E : XK} {us : List Value} {vs : List V}
theorem inv_sup {h1 : Heap} {tk : Nat} {cl : Value} {cld : Option Addr} {cv : Option Value} {csl : Array (Option Value)} (S : SupScope N ps scope) (hd : A.handled = none) (e0 : Env0 P w K mg base A outer s H) (hl : vs.length = ps.length) (r : Vals vs us)
    (hcell : K.lookup cc = some ⟨cl, cld, .cell cv, csl⟩) (ns : h1.Ns s.heap.objs.size (fun x => (ps.zip us).reverse.lookup x)) (hk : ∀ b o, s.heap.get? b = some o → h1.get? b = some o) :
    Inv (cxSup CX P w K mg base N qual scope f cd cc A outer s H E) [] (L2.start N vs) H { s with heap := h1, toks := tk } := by
  have hpl : ps.length ≤ N.length := by have := congrArg List.length S.pre; rw [List.length_take] at this; omega
  have noA : ∀ b : Addr, b ∉ (cxSup CX P w K mg base N qual scope f cd cc A outer s H E).ex := fun b z => absurd (show b ∈ ([] : List Addr) from z) (by simp)
  have one : ∀ y c, List.lookup y [(("__class__" : Str), cc)] = some c → y = "__class__" ∧ c = cc := fun y c h => by
    rw [List.lookup_cons] at h
    cases e : y == ("__class__" : Str) with
    | true =>
      rw [e] at h
      exact ⟨beq_iff_eq.mp e, (Option.some.inj h).symm⟩
    | false =>
      rw [e] at h
      cases h
  have cb := e0.mod.kin _ _ hcell
  refine ⟨⟨e0.mod, S.kind, rfl, rfl, Nat.le_refl _, fun y z c h1 h2 => ?_, fun y hy => ?_, fun y c hf h => ?_, fun _ => hd, Around.frames_deeper e0.frames, .inr ⟨rfl, rfl⟩, fun b z => absurd z (noA b), e0.bs, e0.bsz, fun b _ _ => noA b, fun b z => absurd z (noA b), e0.funs, e0.frf⟩,
    rfl, e0.bare, Un.kept hk, ⟨_, ns, fun i y v h1 h2 h3 => ?_⟩, fun y c h => ?_, e0.hok.fresh (Nat.le_refl _), fun y c h => ?_, fun p hp => absurd (show p ∈ ([] : List (Addr × Obj)) from hp) (by simp), e0.hok.kept hk, ?_⟩
  · rw [(one y c h1).1, (one z c h2).1]
  · have hy : scope.names.lookup y = some .cell ∨ scope.names.lookup y = some .free := hy
    rcases hy with hy | hy
    · exact absurd rfl (S.nocell _ (PySem.mem_of_lookup hy))
    · have := S.free _ (PySem.mem_of_lookup hy) rfl
      exact ⟨cc, by rw [show y = "__class__" from this]; rfl⟩
  · have hf : (y != ("__class__" : Str)) = true := hf
    rw [(one y c h).1] at hf
    exact absurd hf (by simp)
  · have hi : i < vs.length := by
      unfold L2.start at h2
      by_cases hi : i < vs.length
      · exact hi
      · rw [List.getElem?_append_right (by simpa using hi)] at h2
        rw [List.getElem?_replicate] at h2
        split at h2 <;> cases h2
    have ha : vs[i]? = some v := by
      unfold L2.start at h2
      rw [List.getElem?_append_left (by simpa using hi), List.getElem?_map] at h2
      cases e : vs[i]? with
      | none => rw [e] at h2; cases h2
      | some a => rw [e] at h2; cases h2; rfl
    obtain ⟨u, hu, rv⟩ := r.get ha
    have hp : ps[i]? = some y := by
      rw [← S.pre, List.getElem?_take_of_lt (by omega)]; exact h1
    have ndP : ps.Nodup := by rw [← S.pre]; exact S.nd.sublist (List.take_sublist _ _)
    exact ⟨u, rv, .inl ⟨S.par y (List.mem_of_getElem? hp), rl_get ndP hp hu⟩⟩
  · rw [(one y c h).2]
    exact ⟨cv, _, hk _ _ (e0.bs _ _ cb).1, rfl⟩
  · rw [(one y c h).2]
    exact (e0.bs _ _ cb).2
  · unfold L2.start
    show _ = N.length
    rw [List.length_append, List.length_map, List.length_replicate]
    omega
end

/-- super().__init__ bound to an exception, called -/
theorem call_mw {prog : Program} {w : World} {A : Around} {E : Value → Shared → Prop} {h : Heap} {g : Array GenState} {d : Drawn} {t : Nat} {os : OsState} {nm q : Str} {C N : Addr} {bs bm : List Value} {hdct : Bool} {sn : List Str} {sub : List Value} {ab : Bool} {col : Option Bool}
    {dd : Option Addr} {k0 k1 k2 k3 k5 : Option Value} {u e t0 : Addr} {rest : List Value} {Q : Value → Shared → Prop}
    (hC : h.get? C = some (excClassObj nm q C N bs bm hdct sn sub ab col dd k0 k1 k2 k3 k5 "ValueError.__new__")) (he : h.get? e = some (PySem.W.excObj C t0 none .none)) (hu : h.get? u = some (PySem.W.kxs_mw "ValueError.__init__" e)) (hrest : rest.length ≤ sizeLine)
    (hq : ∀ h' t1, (∀ b o, b ≠ e → h.get? b = some o → h'.get? b = some o) → h'.get? e = some (PySem.W.excObj C t1 none .none) → Q .none ⟨h', g, d, t, os⟩) :
    wpAny (model prog w) A (call (.ref u) rest) Q E ⟨h, g, d, t, os⟩ := by
  refine wpAny_call (codeAny_of_tree ?_)
  show wpAny _ A.in1 (callAny (.ref u) ⟨rest, []⟩) _ _ _
  simp only [callAny]
  refine wpAny_bind (wpAny_load hu ?_)
  simp only [PySem.W.kxs_mw, show (Value.type "method-wrapper" == Value.type "method" || Value.type "method-wrapper" == Value.type "builtin_function_or_method" || Value.type "method-wrapper" == Value.type "method-wrapper") = true by decide, if_true]
  refine PySem.W.KFB.if_so (by decide) ?_
  refine wpAny_bind (PySem.W.check_bound_init F.excBase_ValueError.toExcCallFacts hC he rfl ?_)
  refine wpAny_bind (wpAny_pure (wpAny_pure ?_))
  refine ⟨plainId_quiet F.excBase_ValueError.init.plain _, codeAny_builtin F.excBase_ValueError.initEntry ?_⟩
  exact PySem.W.exc_init_tree (cls := .ref C) (t0 := t0) (dv := none) (c2 := .none) (c3 := .none) (b4 := .bool false) he hrest fun h' k e' _ => hq h' _ k e'

/-- what the written part says of a class D whose __init__ asks super(), and of the class C of the object -/
structure SupC (prog : Program) (K : PySem.W.Frag) (mg : Str → Option Value) (C D : Addr) : Prop where
  cls : ∃ nm q N bs bm sn sub ab col dd k0 k1 k2 k3 k5, K.lookup C = some (excClassObj nm q C N bs bm true sn sub ab col dd k0 k1 k2 k3 k5 "ValueError.__new__") ∧ PySem.HandSPX.refsVE bm = true
  cD : ∃ cdD, PySem.W.clsIn K D = some cdD
  sub : PySem.W.mroIn K C (.ref D) = some true
  next : PySem.W.ks_superIn K C D "__init__" = some (some (.builtin "ValueError.__init__"))
  ve : PySem.W.subIn K (.ref C) (.type "ValueError") = some true
  any : PySem.W.nsIn K cStatics "thirdparty.any" = some none
  nosup : mg "super" = none
  top : (prog.main.scope.names.lookup ("super" : Str)).isSome = false
/-- of the code object and the cell of that __init__ -/
structure SupF (prog : Program) (K : PySem.W.Frag) (cda cc D : Addr) : Prop where
  code : ∃ cl d vs sl file tf, K.lookup cda = some ⟨cl, d, .fields vs, sl⟩ ∧ vs[2]? = some (.str file tf) ∧ ((prog.main.file : Str) == file) = true
  cell : ∃ cl d sl, K.lookup cc = some ⟨cl, d, .cell (some (.ref D)), sl⟩

theorem sup_row {X : Cx} {σ : L2.St} {H : Hp} {s : Shared} {body : List Stmt} {qual : Str} {scope : Scope} {L f cc cda C D a : Addr} {fd : FuncData} {ar : Arg} {oc : Value} {od : Option Addr} {osl : Array (Option Value)} {p0 p1 p2 p3 p4 p5 : Pos} {x : Str} {j : Nat} {Q : Flow → Shared → Prop} {E : Value → Shared → Prop}
    (he : X.env = PySem.W.ksEnv qual scope L f (.ref cda) cc) (hks : scope.names.lookup ("super" : Str) = some .globalImplicit) (hkc : scope.names.lookup ("__class__" : Str) = some .free) (hka : scope.names.lookup ar.arg = some .local)
    (lk : X.K.lookup f = some ⟨oc, od, .func fd, osl⟩) (hp : (fd.params.posonlyargs ++ fd.params.args).head? = some ar) (F : SupF X.prog X.K cda cc D) (T : SupC X.prog X.K X.mg C D) (I : Inv X [] σ H s) (hN : X.N[0]? = some ar.arg) (hσ : σ[0]? = some (some (.ref a))) (ea : H a = some (exo a C none))
    (h : ∀ s', Inv X [] σ H s' → Q .next s')
    (hs : swapsWith (.Call (.Attribute (.Call (.Name "super" p0) [] [] p1) "__init__" p2) [.Constant (.str x) j p3] [] p4) none p5.line X.env = pure false := by rfl)
    {pl : Sem Bool} (hev : eval (.Call (.Attribute (.Call (.Name "super" p0) [] [] p1) "__init__" p2) [.Constant (.str x) j p3] [] p4) X.env = (do
      let ov ← attributeBase (.Call (.Name "super" p0) [] [] p1) "__init__" X.env (eval (.Call (.Name "super" p0) [] [] p1) X.env)
      standAt p2.atName
      let (f, first) ← holding [ov] (getMethod ov "__init__" pl)
      callWith p4 f first (backTo p4 (starEach [.Constant (.str x) j p3] X.env)) []) := by rfl)
    (hst : starEach [Expr.Constant (.str x) j p3] X.env = (false, eval (.Constant (.str x) j p3) X.env) :: starEach [] X.env := by rfl) :
    PySem.wpAt (model X.prog X.w) X.A (.func body X.env) (exec (.Expr (.Call (.Attribute (.Call (.Name "super" p0) [] [] p1) "__init__" p2) [.Constant (.str x) j p3] [] p4) p5) X.env) Q E s := by
  obtain ⟨cl, dcl, vsC, slC, file, tf, hcode, hvs, hfile⟩ := F.code
  obtain ⟨cl2, dcl2, sl2, hcell⟩ := F.cell
  obtain ⟨nm, qn, NC, bs, bm, sn, sub, ab, col, dd, k0, k1, k2, k3, k5, hC, hbm⟩ := T.cls
  obtain ⟨cdD, hD⟩ := T.cD
  obtain ⟨mb, hb1, hb2⟩ := I.mod.blt
  obtain ⟨m, hm, hl⟩ := I.loc
  obtain ⟨u0, ru0, look⟩ := hl 0 ar.arg (.ref a) hN hσ (.inl (by rw [he]; exact hka))
  obtain rfl : u0 = Value.ref a := ru0
  have hself : m ar.arg = some (.ref a) := by
    rcases look with ⟨_, e⟩ | ⟨k, c, hc, _⟩
    · exact e
    · rcases k with k | k
      · rw [he] at k
        exact absurd (hka.symm.trans k) (by simp)
      · rw [he] at k
        exact absurd (hka.symm.trans k) (by simp)
  obtain ⟨t1, hobj⟩ := exo_at I.hok ea
  have KI := I.kIn
  have kk : X.env.scope.kind = .function := I.ok.kind
  have hks' : X.env.kindOf "super" = some .globalImplicit := by rw [he]; exact hks
  have hkc' : X.env.kindOf "__class__" = some .free := by rw [he]; exact hkc
  have hka' : X.env.kindOf ar.arg = some .local := by rw [he]; exact hka
  have hcl : X.env.cells.lookup ("__class__" : Str) = some cc := by rw [he]; rfl
  obtain ⟨oD, hD1, hD2⟩ : ∃ oD, s.heap.get? D = some oD ∧ oD.data = .cls cdD := by
    unfold PySem.W.clsIn at hD
    split at hD
    · rename_i c d cd' sl ho
      cases hD
      exact ⟨_, KI _ _ ho, rfl⟩
    · cases hD
  refine PySem.ks_wpAt_Expr_any (PySem.ks_wpAt_MethodCall (PySem.ks_wpAt_super_base (env := X.env) hks' hkc' (by decide) (by rw [he]) (KI _ _ lk) rfl hp (by rw [he]) (KI _ _ hcode) rfl hvs hfile T.top ?_) hev) I.quiet hs
  refine PySem.W.ks_loadName_global kk hks' (Calls.loadGlobal_builtin (by rw [I.ok.glob]; exact I.mod.glob.keeps I.bk) T.nosup (by rw [I.ok.blt]; exact hb1.keeps I.bk) ((hb2 _ (by decide)).trans (by decide +kernel : bootBuiltins "super" = some (.type "super"))) ⟨rfl, ?_⟩)
  refine wpAny_loadName_free kk hkc' hcl ⟨_, KI _ _ hcell, rfl⟩ ?_
  refine wpAny_loadName_local kk hka' hm hself ?_
  refine PySem.ks_wpAny_isType_cls hD1 hD2 ⟨rfl, ?_⟩
  obtain ⟨hp0, g, d, tk, os⟩ := s
  refine PySem.ks_wpAny_call_super hD1 hD2 hobj rfl (fun c e => by cases e) (PySem.W.looks_mroIn KI T.sub) (fun h1 e1 k1 => ?_)
  have I1 := I.kept (h' := h1) (t' := tk) k1
  have hnx := T.next
  unfold PySem.W.ks_superIn at hnx
  cases hc : PySem.W.clsIn X.K C with
  | none =>
    rw [hc] at hnx
    cases hnx
  | some cd =>
    rw [hc] at hnx
    have K1 := I1.kIn
    have hin : PySem.W.InstAt h1 a (PySem.W.excObj C t1 none .none) C none := ⟨k1 _ _ hobj, rfl, rfl, trivial⟩
    refine PySem.W.kxs_getMethod PySem.W.kxs_ValueError e1 (PySem.W.looks_opaque K1 T.any) (l₀ := cd.mro) ?_ rfl K1 hnx (hin.type.andThen (PySem.W.looks_subIn K1 T.ve)) (PySem.W.ks_ne K1 hin hc) (by decide) ?_
    · exact fun A Q E s k q => wpAny_bind ((PySem.W.looks_clsIn K1 hc) A _ E s k (wpAny_pure q))
    have hso : h1.objs.size = h1.objs.size := rfl
    -- the bound __init__ stands behind
    have ku : ∀ b o, h1.get? b = some o → (h1.push (PySem.W.kxs_mw "ValueError.__init__" a)).get? b = some o := fun b o e => Heap.get?_push_of_some _ e
    have hu : (h1.push (PySem.W.kxs_mw "ValueError.__init__" a)).get? h1.objs.size = some (PySem.W.kxs_mw "ValueError.__init__" a) := Heap.get?_push_at rfl rfl
    have I2 := I1.kept (h' := h1.push (PySem.W.kxs_mw "ValueError.__init__" a)) (t' := tk + 1) ku
    have I3 : Inv X [(h1.objs.size, PySem.W.kxs_mw "ValueError.__init__" a)] σ H ⟨h1.push (PySem.W.kxs_mw "ValueError.__init__" a), g, d, tk + 1, os⟩ := by
      refine I2.pins_of fun p hp => ?_
      rw [List.mem_singleton.mp hp]
      refine ⟨hu, I1.hok.fresh (Nat.le_refl _), ?_, ?_, fun v z => by cases z⟩
      · exact fun z => absurd I1.lt (by rw [← z]; exact Nat.lt_irrefl _)
      · exact I1.nofs (Nat.le_refl _)
    refine PySem.W.kxs_callWith (i := "ValueError.__init__") (x := a) ?_ ?_
    · rw [hst]
      rfl
    · rw [hst]
      refine Calls.evalArgs_plain ?_
      have pa := (pa_cons (X := X) (e := .Constant (.str x) j p3) (es := []) pe_str pa_nil hst)
      have pr := pa.run p4 [(h1.objs.size, PySem.W.kxs_mw "ValueError.__init__" a)] _ σ H (fun vs H2 => vs = [.str x] ∧ H2 = H) I3 ⟨rfl, rfl⟩
      rw [hst] at pr
      refine thn pr fun us s4 got => ?_
      obtain ⟨vs, H4, I4, r4, e4, e5⟩ := got
      subst e4
      subst e5
      obtain ⟨hu4, _⟩ := I4.pin _ (List.mem_append_right _ (List.mem_singleton.mpr rfl))
      refine ⟨hu4, ?_⟩
      have hlen : us.length ≤ sizeLine := by
        rw [← r4.length]
        show 1 ≤ sizeLine
        decide
      obtain ⟨t4, ho4⟩ := exo_at I4.hok ea
      obtain ⟨h4, g4, d4, tk4, os4⟩ := s4
      refine call_mw (I4.kIn _ _ hC) ho4 hu4 hlen fun h' t' k e' => ?_
      have J := I4.write (t' := tk4) (x := a) (e := a) (o := exo a C none) (by rw [ea]; exact True.intro) (.inl rfl) k ⟨_, e'⟩ (exo_ok e')
      have eu : upd H4 a (exo a C none) = H4 := by
        funext b
        by_cases hb : b = a
        · rw [hb, upd_same, ea]
        · rw [upd_ne hb]
      rw [eu] at J
      exact h _ (J.pins_of fun p hp => absurd hp (by simp))

/-- THE RULE: an own exception's __init__ whose first row is super().__init__('..') -/
theorem fn_sup {CX : CXT} {P : Program} {w : World} {K : PySem.W.Frag} {mg : Str → Option Value} {base : Heap} {k : Nat} {f cc cda D : Addr} {name qual : Str} {params : Arguments} {body rest : List Stmt} {scope : Scope} {kV doc pm ct oc : Value} {an od : Option Addr}
    {osl : Array (Option Value)} {N ps : List Str} {sp : Sp} {ar : Arg} {p0 p1 p2 p3 p4 p5 : Pos} {x : Str} {j : Nat}
    (lk : K.lookup f = some ⟨oc, od, .func (PySem.W.ksFn name qual params body scope .none kV doc pm an (.ref cda) ct cc), osl⟩) (hcd : PySem.W.codeIn K (.ref cda) qual = true) (S : SupScope N ps scope) (F : SupF P K cda cc D)
    (hb : body = .Expr (.Call (.Attribute (.Call (.Name "super" p0) [] [] p1) "__init__" p2) [.Constant (.str x) j p3] [] p4) p5 :: rest) (hp : (params.posonlyargs ++ params.args).head? = some ar) (hN : N[0]? = some ar.arg) (hpa : ar.arg ∈ ps)
    (len : ∀ vs H Q E, sp vs H Q E → vs.length = ps.length)
    (hev : ∀ L : Addr, ∃ pl : Sem Bool, eval (.Call (.Attribute (.Call (.Name "super" p0) [] [] p1) "__init__" p2) [.Constant (.str x) j p3] [] p4) (PySem.W.ksEnv qual scope L f (.ref cda) cc) = (do
      let ov ← attributeBase (.Call (.Name "super" p0) [] [] p1) "__init__" (PySem.W.ksEnv qual scope L f (.ref cda) cc) (eval (.Call (.Name "super" p0) [] [] p1) (PySem.W.ksEnv qual scope L f (.ref cda) cc))
      standAt p2.atName
      let (g, first) ← holding [ov] (getMethod ov "__init__" pl)
      callWith p4 g first (backTo p4 (starEach [.Constant (.str x) j p3] (PySem.W.ksEnv qual scope L f (.ref cda) cc))) []))
    (hbody : ∀ (A : Around) (outer : List Env) (s : Shared) (H : Hp) (vs : List V) (Q : VK) (E : XK), Room k (A.deeper (PySem.W.ksEnv qual scope s.heap.objs.size f (.ref cda) cc)) → sp vs H Q E →
      ∃ a C, vs[0]? = some (.ref a) ∧ H a = some (exo a C none) ∧ SupC P K mg C D ∧ ∃ t, PSs (cxSup CX P w K mg base N qual scope f (.ref cda) cc A outer s H E) rest t ∧ t { nx := fun _ H' => Q .non H', rt := Q } (L2.start N vs) H) :
    FnOk P w K mg base CX (k + 1) f (PySem.W.ksFn name qual params body scope .none kV doc pm an (.ref cda) ct cc) ps sp := by
  refine ⟨len, fun A outer s H args us vs Q E hr e0 hbd r hsp => ?_⟩
  have hl := len _ _ _ _ hsp
  have KX : K.In s.heap := e0.mod.kin.keeps fun b o e => (e0.bs b o e).1
  have lim : s.heap.NoLimit := e0.mod.nolimit.keeps fun b o e => (e0.bs b o e).1
  obtain ⟨cl2, dcl2, sl2, hcell⟩ := F.cell
  refine PySem.ks_codeAny_call_defAt (fd := PySem.W.ksFn name qual params body scope .none kV doc pm an (.ref cda) ct cc) (body := body) hr.depth (KX _ _ lk) rfl lim (PySem.W.codeRec_of KX hcd) rfl hbd S.nocell (fun y hy => S.par _ (List.of_mem_zip hy).1) (fun h0 ns keep => ?_) S.co S.gen S.kind
  obtain ⟨a, C, hv0, ea, T, t, ht, hq⟩ := hbody A outer s H vs Q E (hr.deeper _) hsp
  have I : Inv (cxSup CX P w K mg base N qual scope f (.ref cda) cc A outer s H E) [] (L2.start N vs) H { s with heap := h0, toks := s.toks + (ps.zip us).length } := inv_sup S hr.hd e0 hl r hcell ns keep
  subst hb
  obtain ⟨pl, hpl⟩ := hev s.heap.objs.size
  refine PySem.ks_wpAt_execs_cons (sup_row (hev := hpl) (X := cxSup CX P w K mg base N qual scope f (.ref cda) cc A outer s H E) rfl S.sup S.cls (S.par _ hpa) lk hp F T I hN ?_ ea (fun s' J => ?_))
  · unfold L2.start
    have hlt : 0 < vs.length := (List.getElem?_eq_some_iff.mp hv0).1
    rw [List.getElem?_append_left (by simpa using hlt), List.getElem?_map, hv0]
    rfl
  · refine wpAt_of_wpAny ?_
    refine wpAny_mono (ht.run [] s' (L2.start N vs) H _ J hq) (fun fl s2 hs => ?_) fun e s2 hs => hs
    have fin : ∀ {σ' : L2.St} {H' : Hp} {v : V} {u : Value}, Inv (cxSup CX P w K mg base N qual scope f (.ref cda) cc A outer s H E) [] σ' H' s2 → RelV v u → Q v H' → CE outer P w H s Q u s2 :=
      fun {σ' H' v u} J rv q => ⟨v, H', J.os, J.bare, J.base, J.hok, rv, q⟩
    cases fl with
    | ret u =>
      obtain ⟨v, σ', H', J, rv, q⟩ := hs
      exact fin J rv q
    | next =>
      obtain ⟨σ', H', J, q⟩ := hs
      exact fin (v := V.non) (u := Value.none) J rfl q
    | brk =>
      obtain ⟨_, _, _, q⟩ := hs
      exact False.elim q
    | cont =>
      obtain ⟨_, _, _, q⟩ := hs
      exact False.elim q
end SpX

set_option Elab.async false
set_option linter.all false
set_option maxRecDepth 100000
set_option maxHeartbeats 4000000
namespace SpX
open PySem PySem.Spec PyProof.Rows L2
section
variable {X : Cx} {CX : CXT} {k : Nat} {f C : Addr} {fd : FuncData} {ps : List Str} {sp : Sp} {E : XK} {op : Operator}
/-- int's own method says nothing of an instance -/
def Declines (op : Operator) : Prop := ∀ (prog : Program) (w : World) (A : Around) (E' : Value → Shared → Prop) (s : Shared) (i : Int) (t : Tok) (x C dx : Addr) (Q : Option Value → Shared → Prop),
  s.heap.get? x = some (PySem.W.instObj C dx) → Q none s → wpAny (model prog w) A (tryMethod (.int i t) (PySem.dunder op.info.2) (.ref x)) Q E' s
theorem declines_of {op : Operator} {id nm : String} {g : Int → Int → Sem Fin} {B : Builtin} (slot : Slot "int" (PySem.dunder op.info.2) id) (entry : entryFor table id = some B) (hB : B = Builtin.Int.intBinary nm g false)
    (args : ∀ a b : Value, argsOk id ⟨[a, b], []⟩) (hsl : ∀ (i : Int) (t : Tok) (x : Addr), slotArgs nm 1 ⟨[.int i t, .ref x], []⟩ = pure (.int i t, [.ref x])) : Declines op := by
  intro prog w A E' s i t x C dx Q hx h
  unfold tryMethod
  refine wpAny_bind (wpAny_callSpecial?_slot (typeIs_int s i t) slot ?_)
  refine wpAny_call_entry slot (typeIs_int s i t) entry ?_ (args _ _)
  rw [hB]
  exact int_declines (hsl i t x) hx ⟨_, rfl, wpAny_pure h⟩
theorem gbin_add : ∃ g, Builtin.«int.__add__» = Builtin.Int.intBinary "__add__" g false := ⟨_, rfl⟩
theorem gslot_add (i : Int) (t : Tok) (x : Addr) : slotArgs "__add__" 1 ⟨[.int i t, .ref x], []⟩ = pure (.int i t, [.ref x]) := rfl
theorem decl_add : Declines .Add := by
  obtain ⟨g, hg⟩ := gbin_add
  refine declines_of (op := .Add) (id := "int.__add__") (nm := "__add__") (g := g) (B := Builtin.«int.__add__») ?_ ?_ ?_ ?_ ?_
  · exact slot_int_add
  · exact entry_int_add
  · exact hg
  · exact args_int_add
  · exact gslot_add
theorem gbin_sub : ∃ g, Builtin.«int.__sub__» = Builtin.Int.intBinary "__sub__" g false := ⟨_, rfl⟩
theorem gslot_sub (i : Int) (t : Tok) (x : Addr) : slotArgs "__sub__" 1 ⟨[.int i t, .ref x], []⟩ = pure (.int i t, [.ref x]) := rfl
theorem decl_sub : Declines .Sub := by
  obtain ⟨g, hg⟩ := gbin_sub
  refine declines_of (op := .Sub) (id := "int.__sub__") (nm := "__sub__") (g := g) (B := Builtin.«int.__sub__») ?_ ?_ ?_ ?_ ?_
  · exact slot_int_sub
  · exact entry_int_sub
  · exact hg
  · exact args_int_sub
  · exact gslot_sub
theorem gbin_mul : ∃ g, Builtin.«int.__mul__» = Builtin.Int.intBinary "__mul__" g false := ⟨_, rfl⟩
theorem gslot_mul (i : Int) (t : Tok) (x : Addr) : slotArgs "__mul__" 1 ⟨[.int i t, .ref x], []⟩ = pure (.int i t, [.ref x]) := rfl
theorem decl_mul : Declines .Mult := by
  obtain ⟨g, hg⟩ := gbin_mul
  refine declines_of (op := .Mult) (id := "int.__mul__") (nm := "__mul__") (g := g) (B := Builtin.«int.__mul__») ?_ ?_ ?_ ?_ ?_
  · exact slot_int_mul
  · exact entry_int_mul
  · exact hg
  · exact args_int_mul
  · exact gslot_mul
/-- what the text must say of the reflected method g -/
structure OwnRef (K : PySem.W.Frag) (C : Addr) (op : Operator) (g : Addr) : Prop where
  ex : ∃ f : Addr, PySem.W.findIn K (.ref C) (PySem.dunder op.info.2) = some (some (.ref f))
  hs : PySem.W.findIn K (.ref C) (dunderR op.info.2) = some (some (.ref g))
  hf : PySem.W.isFn K (.ref g) = true
  hc : PySem.W.selfFirst K C = true
  h1 : ∃ fo, PySem.W.findIn K (.type "int") (PySem.dunder op.info.2) = some fo ∧ (fo.isSome && !isSeqSlot fo) = true
  h2 : ∃ ro, PySem.W.findIn K (.type "int") (dunderR op.info.2) = some ro
  hsub : PySem.W.subIn K (.ref C) (.type "int") = some false
theorem binop_refl {prog : Program} {w : World} {A : Around} {E' : Value → Shared → Prop} {s : Shared} {K : PySem.W.Frag} {i : Int} {t : Tok} {x g : Addr} {dx : Addr} {od : Option Obj} {Q : Value → Shared → Prop} (X : K.In s.heap) (O : OwnRef K C op g) (D : Declines op)
    (hx : s.heap.get? x = some (PySem.W.instObj C dx)) (I : PySem.W.InstAt s.heap x (PySem.W.instObj C dx) C od)
    (h : wpAny (model prog w) A (call (.ref g) [.ref x, .int i t]) (PySem.W.CmpBack Q) E' s) : wpAny (model prog w) A (binaryOp op (.int i t) (.ref x)) Q E' s := by
  obtain ⟨cd, rest, hcd, hm⟩ := PySem.W.ksp_first O.hc
  obtain ⟨f, hs⟩ := O.ex
  obtain ⟨fo, h1, hfo⟩ := O.h1
  obtain ⟨ro, h2⟩ := O.h2
  have hsr := O.hs
  have one := PySem.W.ksp_try X I O.hs O.hf h
  have dec := D prog w A E' s i t x C dx
  rcases hi : op.info with ⟨sym, nm'⟩
  rw [hi] at hs h1 h2 hsr dec one
  dsimp only at hs h1 h2 hsr dec one
  obtain ⟨hh, g', d, tt, os⟩ := s
  have L1 : PySem.W.Looks (model prog w) hh (typeOf (.int i t)) (.type "int") := PySem.W.Looks.of_pure rfl
  have L2 : PySem.W.Looks (model prog w) hh (typeOf (.ref x)) (.ref C) := I.type
  have L3 : PySem.W.Looks (model prog w) hh (fillsNumberSlot (.type "int") nm') ((fo.isSome && !isSeqSlot fo) || (ro.isSome && !isSeqSlot ro)) := PySem.W.ksp_fillsT X h1 h2
  rw [hfo, Bool.true_or] at L3
  have L4 : PySem.W.Looks (model prog w) hh (fillsNumberSlot (.ref C) nm') true := PySem.W.fills_K X hcd hm hs
  have L5 : PySem.W.Looks (model prog w) hh (isSubtype (.ref C) (.type "int")) false := PySem.W.looks_subIn X O.hsub
  have L7 : PySem.W.Looks (model prog w) hh (numberSlotInPython (.type "int") nm') false := PySem.W.Looks.of_pure rfl
  have hne : (Value.type "int" == Value.ref C) = false := Bool.eq_false_iff.mpr fun q => by cases beq_iff_eq.mp q
  simp only [binaryOp, hi]
  refine wpAny_holding (wpAny_bind ?_)
  unfold binaryOp1
  refine wpAny_bind (L1.at (wpAny_bind (L2.at (wpAny_bind (L3.at ?_)))))
  simp only [hne, Bool.false_eq_true, if_false]
  refine wpAny_bind (L4.at ?_)
  simp only [Bool.and_self, if_true]
  refine wpAny_bind (L5.at ?_)
  simp only [Bool.false_eq_true, if_false]
  refine wpAny_bind (wpAny_pure ?_)
  simp only [Bool.not_false, Bool.and_self, if_true, Bool.false_eq_true, if_false]
  refine wpAny_bind (dec _ hx ?_)
  dsimp only
  refine wpAny_bind (wpAny_mono one (fun r s' hr' => ?_) fun _ _ e => e)
  obtain ⟨v, rfl, hq⟩ := hr'
  exact wpAny_bind (wpAny_rule (wpAny_pure (wpAny_pure hq)))
/-- int op instance -/
def rOwnR (C : Addr) (sp : Sp) (E : XK) : R2 := fun x y H Q => ∃ i a dx fs, x = .int i ∧ y = .ref a ∧ H a = some (.ins C dx fs) ∧ sp [.ref a, .int i] H Q E
theorem op_ownR (O : OwnRef X.K C op f) (Dc : Declines op) (F : FnOk X.prog X.w X.K X.mg X.base CX k f fd ps sp) (hr : Room k X.A) (hb : Binds X.K fd ps []) (hx : Passes CX X E) : OpR X (binaryOp op) (rOwnR C sp E) := by
  intro pins s σ H x y v u Q I rx ry h
  obtain ⟨i, a, dx, fs, rfl, rfl, ha, hsp⟩ := h
  obtain ⟨t, rfl⟩ := rx
  cases ry
  obtain ⟨mA, J, _⟩ := ins_get I.hok ha
  have hobj := J.obj
  obtain ⟨od, J, _⟩ := J.look
  refine binop_refl I.kIn O Dc hobj J ?_
  refine thn (run_fn (us := [.ref a, .int i t]) (vs := [.ref a, .int i]) (dvs := []) F hr hb .nil hx I (.cons rfl (.cons ⟨t, rfl⟩ .nil)) hsp) fun u s' q => ep_back q

/-! ### == by an own __eq__, whatever it answers -/
/-- what the text must say of the class's __eq__ -/
structure OwnEqF (K : PySem.W.Frag) (C f : Addr) : Prop where
  hs : PySem.W.findIn K (.ref C) "__eq__" = some (some (.ref f))
  hf : PySem.W.isFn K (.ref f) = true
  hi : PySem.W.subIn K (.type "int") (.ref C) = some false
  hci : PySem.W.subIn K (.ref C) (.type "int") = some false
theorem cmp_own2 (O : OwnEqF X.K C f) (F : FnOk X.prog X.w X.K X.mg X.base CX k f fd ps sp) (hr : Room k X.A) (hb : Binds X.K fd ps []) (hx : Passes CX X E) : OpR X (compareOp .Eq) (rOwn2 C sp E) := by
  intro pins s σ H x y v u Q I rx ry h
  obtain ⟨a, b, dx, dy, fs, gs, rfl, rfl, ha, hb', hsp⟩ := h
  cases rx
  cases ry
  obtain ⟨mA, J, _⟩ := ins_get I.hok ha
  obtain ⟨mB, J', _⟩ := ins_get I.hok hb'
  obtain ⟨od, J, _⟩ := J.look
  obtain ⟨od', J', _⟩ := J'.look
  obtain ⟨m, hF⟩ := I.fr
  show wpAny (model X.prog X.w) X.A (richCompare .Eq (.ref a) (.ref b)) (EP X pins σ Q) X.xe s
  refine PySem.W.cmp_K (op := .Eq) (tb := .ref C) hr.units0 hF I.ok.mod.kin J J'.type (by simp [PySem.W.notFirst]) O.hs O.hf ?_
  refine thn (run_fn (us := [.ref a, .ref b]) (vs := [.ref a, .ref b]) (dvs := []) F hr hb .nil hx I (.cons rfl (.cons rfl .nil)) hsp) fun u s' q => ep_back q
theorem cmp_ownI (O : OwnEqF X.K C f) (F : FnOk X.prog X.w X.K X.mg X.base CX k f fd ps sp) (hr : Room k X.A) (hb : Binds X.K fd ps []) (hx : Passes CX X E) : OpR X (compareOp .Eq) (rOwnI C sp E) := by
  intro pins s σ H x y v u Q I rx ry h
  obtain ⟨a, i, dx, fs, rfl, rfl, ha, hsp⟩ := h
  cases rx
  obtain ⟨t, rfl⟩ := ry
  obtain ⟨mA, J, _⟩ := ins_get I.hok ha
  obtain ⟨od, J, _⟩ := J.look
  obtain ⟨m, hF⟩ := I.fr
  show wpAny (model X.prog X.w) X.A (richCompare .Eq (.ref a) (.int i t)) (EP X pins σ Q) X.xe s
  refine PySem.W.cmp_K (op := .Eq) (tb := .type "int") hr.units0 hF I.ok.mod.kin J (PySem.W.Looks.of_pure rfl) (by unfold PySem.W.notFirst; rw [O.hi]; simp) O.hs O.hf ?_
  refine thn (run_fn (us := [.ref a, .int i t]) (vs := [.ref a, .int i]) (dvs := []) F hr hb .nil hx I (.cons rfl (.cons ⟨t, rfl⟩ .nil)) hsp) fun u s' q => ep_back q
/-- int == instance -/
theorem gcmp_eq (i : Int) (t : Tok) (x : Addr) : slotArgs "__eq__" 1 ⟨[.int i t, .ref x], []⟩ = pure (.int i t, [.ref x]) := rfl
theorem gbin_eq : ∃ g, Builtin.«int.__eq__» = Builtin.Int.intBinary "__eq__" g false := ⟨_, rfl⟩
theorem int_declinesC {prog : Program} {w : World} {A : Around} {E' : Value → Shared → Prop} {s : Shared} {i : Int} {t : Tok} {x C dx : Addr} {Q : Fin → Shared → Prop}
    (hsl : slotArgs "__eq__" 1 ⟨[.int i t, .ref x], []⟩ = pure (.int i t, [.ref x])) (hx : s.heap.get? x = some (PySem.W.instObj C dx)) (h : Q (.done (.ret .notImplemented)) s) :
    wpAny (model prog w) A (Builtin.«int.__eq__» ⟨[.int i t, .ref x], []⟩) Q E' s := by
  obtain ⟨g, hg⟩ := gbin_eq
  rw [hg]
  exact int_declines hsl hx h
theorem cmp_ownR (O : OwnEqF X.K C f) (F : FnOk X.prog X.w X.K X.mg X.base CX k f fd ps sp) (hr : Room k X.A) (hb : Binds X.K fd ps []) (hx : Passes CX X E) : OpR X (compareOp .Eq) (rOwnR C sp E) := by
  intro pins s σ H x y v u Q I rx ry h
  obtain ⟨i, a, dx, fs, rfl, rfl, ha, hsp⟩ := h
  obtain ⟨t, rfl⟩ := rx
  cases ry
  obtain ⟨mA, J, _⟩ := ins_get I.hok ha
  have hobj := J.obj
  obtain ⟨od, J, _⟩ := J.look
  have kin := I.kIn
  have one : wpAny (model X.prog X.w) X.A (tryCompare (.ref a) "__eq__" (.int i t)) (fun r s' => ∃ v, r = some v ∧ EP X pins σ Q v s') X.xe s := by
    unfold tryCompare
    refine wpAny_bind (PySem.W.ifBound_K kin J O.hs O.hf (wpAny_mono (run_fn (us := [.ref a, .int i t]) (vs := [.ref a, .int i]) (dvs := []) F hr hb .nil hx I (.cons rfl (.cons ⟨t, rfl⟩ .nil)) hsp) (fun v s' hv => ?_) fun _ _ e => e))
    have hv' := ep_back hv
    cases v <;> first | exact hv'.elim | exact wpAny_pure ⟨_, rfl, hv⟩
  show wpAny (model X.prog X.w) X.A (richCompare .Eq (.int i t) (.ref a)) (EP X pins σ Q) X.xe s
  unfold richCompare
  refine wpAny_holding (wpAny_bind (wpAny_cRoomFor hr.units0 ?_))
  rw [show oneThing? CmpOp.Eq (Value.int i t) (Value.ref a) = none from rfl]
  dsimp only [cmpInfo]
  have L1 : PySem.W.Looks (model X.prog X.w) s.heap (typeOf (.int i t)) (.type "int") := PySem.W.Looks.of_pure rfl
  refine wpAny_bind (L1.here (wpAny_bind (J.type.here ?_)))
  rw [if_pos (show (Value.type "int" != Value.ref C) = true from rfl)]
  refine wpAny_bind ((PySem.W.looks_subIn kin O.hci).here ?_)
  simp only [Bool.false_eq_true, if_false]
  refine wpAny_bind (m := tryCompare (.int i t) _ (.ref a)) ?_
  unfold tryCompare
  refine wpAny_bind (m := callSpecialIfBound? (.int i t) _ _) (wpAny_callSpecialIfBound?_slot (typeIs_int s i t) slot_int_eq ?_)
  refine wpAny_call_entry slot_int_eq (typeIs_int s i t) entry_int_eq ?_ (args_int_eq _ _)
  refine int_declinesC (gcmp_eq i t a) hobj ⟨_, rfl, ?_⟩
  refine wpAny_pure ?_
  rw [if_pos (show (!false) = true from rfl)]
  refine wpAny_bind (wpAny_mono one (fun r s' hr' => ?_) fun _ _ e => e)
  obtain ⟨v, rfl, hq⟩ := hr'
  exact wpAny_pure hq
end
end SpX

set_option Elab.async false
set_option linter.all false
set_option maxRecDepth 100000
set_option maxHeartbeats 2000000
/-! Ratios: how one stands on the heap, what a def promises of it. -/
namespace SpX
open PySem PySem.Spec L2
abbrev RF (t b : Int) : List (Str × V) := [("top", .int t), ("bottom", .int b)]
/-- a ratio t / b stands at p -/
def RatAt (C : Addr) (H : Hp) (p : Addr) (t b : Int) : Prop := ∃ dx, H p = some (.ins C dx (RF t b))
theorem RatAt.same {C : Addr} {H H' : Hp} {p : Addr} {t b : Int} (h : RatAt C H p t b) (s : Same H H') : RatAt C H' p t b := by
  obtain ⟨dx, e⟩ := h
  exact ⟨dx, s _ _ e⟩
/-- isinstance of an int or of a ratio -/
inductive IsA (C : Addr) (H : Hp) : List V → Bool → Prop where
  | ii (i : Int) : IsA C H [.int i, .ty "int"] true
  | ic (i : Int) : IsA C H [.int i, .ref C] false
  | ri {p dx : Addr} {fs : List (Str × V)} (h : H p = some (.ins C dx fs)) : IsA C H [.ref p, .ty "int"] false
  | rc {p dx : Addr} {fs : List (Str × V)} (h : H p = some (.ins C dx fs)) : IsA C H [.ref p, .ref C] true
def rIsA (C : Addr) : List V → Hp → VK → Prop := fun xs H Q => ∃ b, IsA C H xs b ∧ Q (.bl b) H
structure IsaOk (K : PySem.W.Frag) (C : Addr) : Prop where
  cl : Cls K C
  ha : PySem.W.findIn K (.ref C) "__class__" = some (some (.builtin "object.__class__"))
  hn : PySem.W.specialIn K (.builtin "object.__class__") "__get__" = some (some (.builtin "getset_descriptor.__get__"))
  ht : PySem.W.takesIn K (.builtin "object.__class__") = some true
  hm : PySem.W.mroIn K C (.type "object") = some true
  k0 : PySem.W.kitOne K (.ref C) (.type "int") = some false
  k1 : PySem.W.kitOne K (.type "int") (.ref C) = some false
theorem kit_self {K : PySem.W.Frag} {C : Addr} : PySem.W.kitOne K (.ref C) (.ref C) = some true := by
  unfold PySem.W.kitOne
  rw [if_pos (beq_self_eq_true _)]
theorem call_isA {X : Cx} {C : Addr} (T : IsaOk X.K C) : CallR X (.builtin "isinstance") (rIsA C) := by
  intro pins s σ H xs us Q I r h
  obtain ⟨b, h, q⟩ := h
  cases h with
  | ii i => exact call_isi pins s σ H _ us Q I r ⟨_, _, _, _, _, rfl, .ty _, .base (.int _), kit_ty (by decide +kernel), q⟩
  | ic i => exact call_isi pins s σ H _ us Q I r ⟨_, _, _, _, _, rfl, .own _, .base (.int _), T.k1, q⟩
  | ri e => exact call_isi pins s σ H _ us Q I r ⟨_, _, _, _, _, rfl, .ty _, .base (.ins e T.cl T.ha T.hn T.ht T.hm), T.k0, q⟩
  | rc e => exact call_isi pins s σ H _ us Q I r ⟨_, _, _, _, _, rfl, .own _, .base (.ins e T.cl T.ha T.hn T.ht T.hm), kit_self, q⟩
/-- e.f of an instance of C -/
def rFld (C : Addr) (f : Str) : V → Hp → VK → Prop := fun x H Q => ∃ a dx fs v, x = .ref a ∧ H a = some (.ins C dx fs) ∧ fs.lookup f = some v ∧ Q v H
theorem pe_fldA {X : Cx} {C : Addr} {e : Expr} {f : Str} {pos : Pos} {ta : TE} (he : PE X e ta) (c : Cls X.K C) (n : NoAttr X.K C f) (hb : attributeBase e f X.env (eval e X.env) = eval e X.env) : PE X (.Attribute e f pos) (tUn (rFld C f) ta) := by
  refine ⟨fun pins s σ H Q I h => ?_⟩
  refine attr_of hb (thn (he.run pins s σ H _ I h) fun u s1 hh => ?_)
  obtain ⟨x, H1, I1, rx, a, dx, fs, v, ex, ea, l, q⟩ := hh
  subst ex
  obtain rfl : u = Value.ref a := rx
  exact getattr_ok I1 ea c n l fun u' s2 I2 ru => ⟨v, H1, I2, ru, q⟩
section
variable {D : Ends} {σ : L2.St} {H : Hp} {Q : VK} {C p q dx dy : Addr} {t b u c i : Int} {sp : Sp} {E : XK} {ta tb : TE} {f : Str}
theorem x_top (h : H p = some (.ins C dx (RF t b))) : rFld C "top" (.ref p) H Q = Q (.int t) H := propext (Iff.intro
  (fun ⟨_, _, _, _, e1, h1, h2, q⟩ => by
    cases e1
    rw [h] at h1
    cases h1
    cases h2
    exact q)
  (fun q => ⟨_, _, _, _, rfl, h, rfl, q⟩))
theorem bottom_ne : (("bottom" : Str) == "top") = false := by decide +kernel
theorem look_bottom : List.lookup ("bottom" : Str) (RF t b) = some (.int b) := by
  simp only [RF, List.lookup, bottom_ne, beq_self_eq_true]
theorem x_bot (h : H p = some (.ins C dx (RF t b))) : rFld C "bottom" (.ref p) H Q = Q (.int b) H := propext (Iff.intro
  (fun ⟨_, _, _, _, e1, h1, h2, q⟩ => by
    cases e1
    rw [h] at h1
    cases h1
    rw [look_bottom] at h2
    cases h2
    exact q)
  (fun q => ⟨_, _, _, _, rfl, h, look_bottom, q⟩))
theorem x_isII : rIsA C [.int i, .ty "int"] H Q = Q (.bl true) H := propext (Iff.intro (fun ⟨_, h, q⟩ => by cases h; exact q) fun q => ⟨_, .ii _, q⟩)
theorem x_isIC : rIsA C [.int i, .ref C] H Q = Q (.bl false) H := propext (Iff.intro (fun ⟨_, h, q⟩ => by cases h; exact q) fun q => ⟨_, .ic _, q⟩)
theorem x_isRI {fs : List (Str × V)} (h : H p = some (.ins C dx fs)) : rIsA C [.ref p, .ty "int"] H Q = Q (.bl false) H := propext (Iff.intro (fun ⟨_, h, q⟩ => by cases h; exact q) fun q => ⟨_, .ri h, q⟩)
theorem x_isRC {fs : List (Str × V)} (h : H p = some (.ins C dx fs)) : rIsA C [.ref p, .ref C] H Q = Q (.bl true) H := propext (Iff.intro (fun ⟨_, h, q⟩ => by cases h; exact q) fun q => ⟨_, .rc h, q⟩)
theorem x_make {dvs : List V} {t : TA} : tMake C sp dvs E t σ H Q = t σ H (fun vs H1 => ∀ x dx, H1 x = none → H1 dx = none → dx ≠ x →
  sp (.ref x :: (vs ++ dvs)) (upd (upd H1 dx (.own x)) x (.ins C dx [])) (fun v H2 => v = .non ∧ Q (.ref x) H2) E) := rfl
theorem x_own2 {fs gs : List (Str × V)} (h : H p = some (.ins C dx fs)) (h' : H q = some (.ins C dy gs)) : rOwn2 C sp E (.ref p) (.ref q) H Q = sp [.ref p, .ref q] H Q E := propext (Iff.intro
  (fun ⟨_, _, _, _, _, _, e1, e2, _, _, q⟩ => by cases e1; cases e2; exact q) (fun q => ⟨_, _, _, _, _, _, rfl, rfl, h, h', q⟩))
theorem x_ownI {fs : List (Str × V)} (h : H p = some (.ins C dx fs)) : rOwnI C sp E (.ref p) (.int i) H Q = sp [.ref p, .int i] H Q E := propext (Iff.intro
  (fun ⟨_, _, _, _, e1, e2, _, q⟩ => by cases e1; cases e2; exact q) (fun q => ⟨_, _, _, _, rfl, rfl, h, q⟩))
theorem x_ownR {fs : List (Str × V)} (h : H p = some (.ins C dx fs)) : rOwnR C sp E (.int i) (.ref p) H Q = sp [.ref p, .int i] H Q E := propext (Iff.intro
  (fun ⟨_, _, _, _, e1, e2, _, q⟩ => by cases e1; cases e2; exact q) (fun q => ⟨_, _, _, _, rfl, rfl, h, q⟩))
theorem x_ownU {fs : List (Str × V)} (h : H p = some (.ins C dx fs)) : rOwnU C sp E (.ref p) H Q = sp [.ref p] H Q E := propext (Iff.intro
  (fun ⟨_, _, _, e1, _, q⟩ => by cases e1; exact q) (fun q => ⟨_, _, _, rfl, h, q⟩))
theorem x_ownAbs {fs : List (Str × V)} (h : H p = some (.ins C dx fs)) : rOwnAbs C sp E [.ref p] H Q = sp [.ref p] H Q E := propext (Iff.intro
  (fun ⟨_, _, _, e1, _, q⟩ => by cases e1; exact q) (fun q => ⟨_, _, _, rfl, h, q⟩))
theorem x_ownBool {fs : List (Str × V)} (h : H p = some (.ins C dx fs)) : rOwnBool C sp E [.ref p] H Q = sp [.ref p] H (fun v H' => ∃ b, v = .bl b ∧ Q (.bl b) H') E := propext (Iff.intro
  (fun ⟨_, _, _, e1, _, q⟩ => by cases e1; exact q) (fun q => ⟨_, _, _, rfl, h, q⟩))
theorem x_meth {m : Str} {dvs : List V} {t : TA} : tMeth C m sp dvs E ta t σ H Q = ta σ H (fun x H1 => ∃ a dx fs, x = .ref a ∧ H1 a = some (.ins C dx fs) ∧ fs.lookup m = none ∧ t σ H1 fun vs H2 => sp (x :: (vs ++ dvs)) H2 Q E) := rfl
theorem x_bool1 : rBool1 [.int i] H Q = Q (.bl (i != 0)) H := by
  unfold rBool1
  simp
end
/-! ### numbers in their lowest terms -/
/-- t / b is x / y in lowest terms -/
structure Norm (t b x y : Int) : Prop where
  pos : 0 < b
  eq : t * y = x * b
  cop : Nat.gcd t.natAbs b.natAbs = 1
theorem Norm.cross {t b x y x' y' : Int} (h : Norm t b x y) (hy : y ≠ 0) (e : x * y' = x' * y) : Norm t b x' y' := by
  refine ⟨h.pos, ?_, h.cop⟩
  have h1 := h.eq
  refine Int.eq_of_mul_eq_mul_right hy ?_
  calc t * y' * y = (t * y) * y' := by rw [Int.mul_assoc, Int.mul_comm y' y, Int.mul_assoc]
    _ = (x * b) * y' := by rw [h1]
    _ = (x * y') * b := by rw [Int.mul_assoc, Int.mul_comm b y', Int.mul_assoc]
    _ = (x' * y) * b := by rw [e]
    _ = x' * b * y := by rw [Int.mul_assoc, Int.mul_comm y b, Int.mul_assoc]
theorem Norm.le {t b x y : Int} (h : Norm t b x y) (hy : y ≠ 0) : t.natAbs ≤ x.natAbs ∧ b.natAbs ≤ y.natAbs := by
  have e : t.natAbs * y.natAbs = x.natAbs * b.natAbs := by
    rw [← Int.natAbs_mul, ← Int.natAbs_mul, h.eq]
  have c : Nat.Coprime t.natAbs b.natAbs := h.cop
  have hy' : 0 < y.natAbs := by omega
  constructor
  · have d : t.natAbs ∣ x.natAbs * b.natAbs := ⟨_, e.symm⟩
    have d' := Nat.Coprime.dvd_of_dvd_mul_right c d
    by_cases hx : x.natAbs = 0
    · rw [hx, Nat.zero_mul] at e
      have := Nat.mul_eq_zero.mp e
      omega
    · exact Nat.le_of_dvd (by omega) d'
  · have d : b.natAbs ∣ t.natAbs * y.natAbs := ⟨_, by rw [e, Nat.mul_comm]⟩
    exact Nat.le_of_dvd hy' (Nat.Coprime.dvd_of_dvd_mul_left c.symm d)
/-- what the constructor stores is in lowest terms: g the common divisor with the sign of y -/
theorem norm_mk {x y g : Int} (hy : y ≠ 0) (hg : g = (if y < 0 then -((Nat.gcd x.natAbs y.natAbs : Nat) : Int) else ((Nat.gcd x.natAbs y.natAbs : Nat) : Int))) : g ≠ 0 ∧ g.natAbs = Nat.gcd x.natAbs y.natAbs ∧ Norm (x.fdiv g) (y.fdiv g) x y := by
  have hG : 0 < Nat.gcd x.natAbs y.natAbs := Nat.gcd_pos_of_pos_right _ (by omega)
  have dx : ((Nat.gcd x.natAbs y.natAbs : Nat) : Int) ∣ x := Int.ofNat_dvd_left.mpr (Nat.gcd_dvd_left _ _)
  have dy : ((Nat.gcd x.natAbs y.natAbs : Nat) : Int) ∣ y := Int.ofNat_dvd_left.mpr (Nat.gcd_dvd_right _ _)
  generalize hn : Nat.gcd x.natAbs y.natAbs = n at hg hG dx dy
  have gn : g ≠ 0 := by subst hg; split <;> omega
  have ga : g.natAbs = n := by subst hg; split <;> omega
  have gx : g ∣ x := by
    subst hg
    split
    · exact Int.neg_dvd.mpr dx
    · exact dx
  have gy : g ∣ y := by
    subst hg
    split
    · exact Int.neg_dvd.mpr dy
    · exact dy
  obtain ⟨a, rfl⟩ := gx
  obtain ⟨c, rfl⟩ := gy
  refine ⟨gn, ga, ?_⟩
  rw [Int.mul_fdiv_cancel_left _ gn, Int.mul_fdiv_cancel_left _ gn]
  refine ⟨?_, ?_, ?_⟩
  · rw [Int.lt_iff_le_and_ne]
    by_cases hneg : g * c < 0
    · rw [if_pos hneg] at hg
      have : g < 0 := by omega
      have hc : 0 < c := Int.pos_of_mul_neg_left (by rw [Int.mul_comm]; exact hneg) this
      exact ⟨by omega, by omega⟩
    · rw [if_neg hneg] at hg
      have : 0 < g := by omega
      have hc : 0 ≤ c := Int.nonneg_of_mul_nonneg_right (by omega) this
      have : c ≠ 0 := fun e => hy (by rw [e, Int.mul_zero])
      exact ⟨by omega, by omega⟩
  · rw [← Int.mul_assoc, Int.mul_comm a g]
  · rw [Int.natAbs_mul, Int.natAbs_mul, Nat.gcd_mul_left, ga] at hn
    have h2 : n * Nat.gcd a.natAbs c.natAbs = n * 1 := by rw [hn, Nat.mul_one]
    exact Nat.eq_of_mul_eq_mul_left hG h2
end SpX

set_option Elab.async false
set_option linter.all false
set_option maxRecDepth 100000
set_option maxHeartbeats 2000000
/-! Static methods, str(instance), text * int. -/
namespace SpX
open PySem PySem.Spec PyProof.Rows L2
/-- C.m is a static method: its record at p, its def at g -/
structure SMet (K : PySem.W.Frag) (C : Addr) (mc : Value) (m : Str) (p g : Addr) : Prop where
  at_ : PySem.W.findCls K (.ref C) mc m = some (.get (.builtin "staticmethod.__get__") (.ref p) .none (.ref C))
  rc : ∃ rest, PySem.W.recIn K p "staticmethod" = some (.ref g :: rest)
  kp : PySem.W.keepIn K (.ref g) = true
section
variable {X : Cx} {CX : CXT} {k : Nat} {g C p : Addr} {mc : Value} {fd : FuncData} {ps : List Str} {sp : Sp} {E : L2.St → XK} {x m : Str} {p1 pos apos : Pos} {e : Expr} {es : List Expr} {t : TA}
/-- C.m(..), m static -/
def tSM (sp : Sp) (E : L2.St → XK) (t : TA) : TE := fun σ H Q => t σ H fun vs H1 => sp vs H1 Q (E σ)
theorem pe_sm {pl : Sem Bool} (hg : Gl X x) (hm : X.mg x = some (.ref C)) (r : ClX.CRead X.K C mc) (c : SMet X.K C mc m p g) (F : FnOk X.prog X.w X.K X.mg X.base CX k g fd ps sp) (room : Room k X.A) (hb : Binds X.K fd ps []) (hx : ∀ σ, PassesAt CX X σ (E σ)) (ha : PA X (e :: es) t)
    (hdb : (x == ("__debug__" : Str)) = false := by decide) (hst : starEach (e :: es) X.env = (false, eval e X.env) :: starEach es X.env := by rfl) (hpl : (backTo pos (starEach es X.env)).any (·.1) = false := by rfl)
    (ht : eval (.Call (.Attribute (.Name x p1) m apos) (e :: es) [] pos) X.env = (do
      let ov ← eval (.Name x p1) X.env
      standAt apos.atName
      let (f, first) ← holding [ov] (getMethod ov m pl)
      callWith pos f first (backTo pos (starEach (e :: es) X.env)) (backToKw pos (keywordEach [] X.env))) := by rfl) :
    PE X (.Call (.Attribute (.Name x p1) m apos) (e :: es) [] pos) (tSM sp E t) := by
  refine ⟨fun pins s σ H Q I h => ?_⟩
  refine PySem.W.methodCall_KW (pl := pl) (ld_glob I hg hm ?_ hdb) ht
  obtain ⟨rest, hp⟩ := c.rc
  refine PySem.W.method_cls I.kIn r.ga ?_
  refine PySem.W.cls_bind I.kIn r.rd c.at_ ?_
  refine wpAny_call (PySem.W.sm_get (s := { s with toks := s.toks + 1 }) I.kIn hp (PySem.W.handed_on rfl ?_))
  refine PySem.W.callWith_K (first := []) (h₀ := X.base) I.ok.mod.kin c.kp (thn (ha.run pos pins _ σ H _ (I.tok _) h) fun us s2 got2 => ?_) hst hpl
  obtain ⟨vs, H2, inv2, rv, q2⟩ := got2
  exact ⟨inv2.kIn, run_fnS F room hb (hx σ) inv2 rv q2⟩
/-- what passes on serves at every σ -/
theorem passesAt_of {CX : CXT} {E : XK} (hx : Passes CX X E) (σ : L2.St) : PassesAt CX X σ E := fun pins H s e s' I c => hx pins σ H s e s' I c
end
section
variable {X : Cx} {CX : CXT} {k : Nat} {f C : Addr} {fd : FuncData} {ps : List Str} {sp : Sp} {E : XK}
/-- str(instance) -/
def rOwnStr (C : Addr) (sp : Sp) (E : XK) : List V → Hp → VK → Prop := fun xs H Q => ∃ a dx fs, xs = [.ref a] ∧ H a = some (.ins C dx fs) ∧ sp [.ref a] H (fun v H' => ∃ y : Str, v = .str y ∧ Q v H') E
theorem call_strOwn (hs : PySem.W.findIn X.K (.ref C) "__str__" = some (some (.ref f))) (hf : PySem.W.isFn X.K (.ref f) = true) (F : FnOk X.prog X.w X.K X.mg X.base CX k f fd ps sp) (hr : Room (k + 2) X.A) (hb : Binds X.K fd ps []) (hx : Passes CX X E) :
    CallR X (.type "str") (rOwnStr C sp E) := by
  intro pins s σ H xs us Q I r h
  obtain ⟨a, dx, fs, rfl, ha, hsp⟩ := h
  obtain ⟨u, rfl, rx⟩ := vals1 r
  cases rx
  obtain ⟨mA, J, _⟩ := ins_get I.hok ha
  obtain ⟨od, J, _⟩ := J.look
  have sb : Sub X k X.A.in1.in1 := Sub.in1 (Sub.in1 (⟨hr, rfl⟩ : Sub X (k + 2) X.A))
  refine PySem.W.kso_call sb.room.units0 I.kIn J hs hf ?_
  refine thn (run_fnA (us := [.ref a]) (vs := [.ref a]) sb F hb hx I (.cons rfl .nil) hsp) fun u s' q => ?_
  obtain ⟨v, H', I', rv, y, rfl, q⟩ := q
  obtain ⟨t, rfl⟩ := rv
  exact ⟨.str y, H', I', ⟨t, rfl⟩, q⟩
def rMulS : R2 := fun x y H Q => ∃ a n, x = .str a ∧ y = .int n ∧ MulOk a n ∧ Q (.str (Txt.mul a n)) H
theorem op_mulS : OpR X (binaryOp .Mult) rMulS := by
  intro pins s σ H x y v u Q I rx ry h
  obtain ⟨a, n, rfl, rfl, ok, q⟩ := h
  obtain ⟨t, rfl⟩ := rx
  obtain ⟨t', rfl⟩ := ry
  exact SB.mul ok fun t' k => ⟨.str _, H, I.tok _, ⟨_, rfl⟩, q⟩
end
/-- isinstance of the caught exception with a dict, its class being the one at D -/
def rCaughtD (K : PySem.W.Frag) (D a : Addr) (cls : Value) (d : Option Addr) : List V → Hp → VK → Prop := fun xs H Q => cls = .ref D ∧ (∃ (dd : Addr) (fs : List (Str × V)), d = some dd ∧ H dd = some (.xd fs)) ∧ rIsE K D a xs H Q
theorem call_caughtD {X : Cx} {a D : Addr} {oe : Obj} {cls : Value} {d : Option Addr} {pn : List (Addr × Obj)} (C : ExcC X.K D) (hz : Zc cls d oe) (hf : ∃ vs, oe.data = .fields vs) : CallR (X.suite a ((a, oe) :: pn)) (.builtin "isinstance") (rCaughtD X.K D a cls d) := by
  intro pins s σ H xs us Q I r h
  obtain ⟨rfl, ⟨dd, fs, rfl, ed⟩, h⟩ := h
  obtain ⟨c, cv, b, rfl, hcv, e, q⟩ := h
  cases r with
  | cons rx rr =>
    cases rr with
    | cons rt rr =>
      cases rr
      cases rx
      have ec := hcv _ rt
      subst ec
      obtain ⟨hget, _⟩ := I.pin (a, oe) (List.mem_append.mpr (.inl List.mem_cons_self))
      obtain ⟨vs, hv⟩ := hf
      have hx : ObjOk X.prog X.w H s.heap dd (.xd fs) := I.hok dd _ ed
      obtain ⟨mA, hns, hr⟩ := hx
      obtain ⟨od, ho, hl⟩ := lookIn_ns hns
      have J : PySem.W.InstAt s.heap a oe D (some od) := ⟨hget, hz.1, by unfold PySem.W.notCls; rw [hv] <;> rfl, by rw [hz.2]; exact ho⟩
      have hcl : (PySem.W.clsIn X.K D).isSome = true := by
        obtain ⟨cd, hc, _⟩ := PySem.W.any_some C.hd
        rw [hc]
        rfl
      exact PySem.W.kia_one (PySem.W.kitx_exc (od := some od) (ox := oe) hcl C.hg C.hk C.hs C.ha C.hn C.ht C.hm) I.kIn J e (fun z => nomatch z) fun tk => ⟨.bl b, H, I.kept (t' := tk) fun _ _ z => z, rfl, q⟩
section
variable {D : Ends} {σ : L2.St} {H : Hp} {Q : VK} {a b : Str} {i : Int} {tt : TT} {ts : TS} {to te : TE} {r : V → List V → Hp → VK → Prop}
theorem x_eqS : rEq (.str a) (.str b) H Q = Q (.bl (decide (a = b))) H := by
  unfold rEq scal
  simp
theorem x_neS : rNe (.str a) (.str b) H Q = Q (.bl (!decide (a = b))) H := by
  unfold rNe scal
  simp
theorem x_m0 : tM0 r to σ H Q = to σ H (fun x H1 => (∃ a, x = .str a) ∧ r x [] H1 Q) := rfl
theorem x_m1 : tM1 r to te σ H Q = to σ H (fun x H1 => (∃ a, x = .str a) ∧ te σ H1 fun y H2 => r x [y] H2 Q) := rfl
theorem x_isStr {P : Prop} : ((∃ b : Str, V.str a = .str b) ∧ P) = P := by simp
theorem x_SM {sp : Sp} {E : L2.St → XK} {t : TA} : tSM sp E t σ H Q = t σ H (fun vs H1 => sp vs H1 Q (E σ)) := rfl
def rAddT : R2 := fun x y H Q => ∃ i j : Str, x = .str i ∧ y = .str j ∧ i.length + j.length ≤ sizeLine ∧ Q (.str (i ++ j)) H
theorem op_addT {X : Cx} : OpR X (binaryOp .Add) rAddT := op_add_str
theorem x_addT : rAddT (.str a) (.str b) H Q = (a.length + b.length ≤ sizeLine ∧ Q (.str (a ++ b)) H) := propext ⟨fun ⟨_, _, e1, e2, h, q⟩ => by cases e1; cases e2; exact ⟨h, q⟩, fun ⟨h, q⟩ => ⟨_, _, rfl, rfl, h, q⟩⟩
theorem x_slS {lo hi : Option Int} : rSlS (.str a) lo hi H Q = (a.length ≤ sizeLine ∧ Q (.str (cutS a lo hi)) H) := propext ⟨fun ⟨_, e1, h, q⟩ => by cases e1; exact ⟨h, q⟩, fun ⟨h, q⟩ => ⟨_, rfl, h, q⟩⟩
def rLenT : List V → Hp → VK → Prop := fun xs H Q => ∃ z : Str, xs = [.str z] ∧ z.length ≤ sizeLine ∧ Q (.int z.length) H
theorem call_lenT {X : Cx} : CallR X (.builtin "len") rLenT := call_len_str
theorem x_lenS : rLenT [.str a] H Q = (a.length ≤ sizeLine ∧ Q (.int a.length) H) := propext ⟨fun ⟨_, e1, h, q⟩ => by cases e1; exact ⟨h, q⟩, fun ⟨h, q⟩ => ⟨_, rfl, h, q⟩⟩
def rStrI : List V → Hp → VK → Prop := fun xs H Q => ∃ i : Int, xs = [.int i] ∧ i.natAbs.log2 < 1920 ∧ Q (.str (toString i)) H
theorem call_strI {X : Cx} : CallR X (.type "str") rStrI := call_str_int
theorem x_strI : rStrI [.int i] H Q = (i.natAbs.log2 < 1920 ∧ Q (.str (toString i)) H) := propext ⟨fun ⟨_, e1, h, q⟩ => by cases e1; exact ⟨h, q⟩, fun ⟨h, q⟩ => ⟨_, rfl, h, q⟩⟩
def rIntT : List V → Hp → VK → Prop := fun xs H Q => ∃ (a : Str) (n : Int), xs = [.str a] ∧ PySem.intText? a = some n ∧ a.length ≤ 640 ∧ Q (.int n) H
theorem call_intT {X : Cx} : CallR X (.type "int") rIntT := call_int_str
theorem x_intT {n : Int} (h : PySem.intText? a = some n) (hl : a.length ≤ 640) : rIntT [.str a] H Q = Q (.int n) H := propext ⟨fun ⟨_, _, e1, e2, _, q⟩ => by cases e1; rw [h] at e2; cases e2; exact q, fun q => ⟨_, _, rfl, h, hl, q⟩⟩
theorem x_mulS {n : Int} : rMulS (.str a) (.int n) H Q = (MulOk a n ∧ Q (.str (Txt.mul a n)) H) := propext ⟨fun ⟨_, _, e1, e2, h, q⟩ => by cases e1; cases e2; exact ⟨h, q⟩, fun ⟨h, q⟩ => ⟨_, _, rfl, rfl, h, q⟩⟩
def rStartT : V → List V → Hp → VK → Prop := fun x xs H Q => ∃ a b : Str, x = .str a ∧ xs = [.str b] ∧ Q (.bl (Txt.startswith a b)) H
def rFindT : V → List V → Hp → VK → Prop := fun x xs H Q => ∃ a b : Str, x = .str a ∧ xs = [.str b] ∧ Q (.int (Txt.find a b)) H
def rPreT : V → List V → Hp → VK → Prop := fun x xs H Q => ∃ a b : Str, x = .str a ∧ xs = [.str b] ∧ a.length ≤ sizeLine ∧ Q (.str (Txt.removeprefix a b)) H
def rLstT : V → List V → Hp → VK → Prop := fun x xs H Q => ∃ a b : Str, x = .str a ∧ xs = [.str b] ∧ a.length ≤ sizeLine ∧ Q (.str (Txt.lstripChars a b)) H
def rZfT : V → List V → Hp → VK → Prop := fun x xs H Q => ∃ (a : Str) (i : Int), x = .str a ∧ xs = [.int i] ∧ PadOk i = true ∧ Q (.str (Txt.zfill a i)) H
def rAscT : V → List V → Hp → VK → Prop := fun x xs H Q => ∃ a : Str, x = .str a ∧ xs = [] ∧ True ∧ Q (.bl (Txt.isascii a)) H
def rDigT : V → List V → Hp → VK → Prop := fun x xs H Q => ∃ a : Str, x = .str a ∧ xs = [] ∧ True ∧ Q (.bl (Txt.isdigit a)) H
def rParT : V → List V → Hp → VK → Prop := fun x xs H Q => ∃ a b : Str, x = .str a ∧ xs = [.str b] ∧ (b.length == 0) = false ∧ a.length ≤ sizeLine ∧ ∀ p, H p = none → Q (.ref p) (upd H p (.tup [.str (Txt.partition a b).1, .str (Txt.partition a b).2.1, .str (Txt.partition a b).2.2]))
def rSplT : V → List V → Hp → VK → Prop := fun x xs H Q => ∃ a b : Str, x = .str a ∧ xs = [.str b] ∧ (b.length == 0) = false ∧ a.length + 2 ≤ sizeLine ∧ ∀ p, H p = none → Q (.ref p) (upd H p (.lst ((Txt.split a b).map V.str)))
theorem x_startT : rStartT (.str a) [.str b] H Q = Q (.bl (Txt.startswith a b)) H := propext ⟨fun ⟨_, _, e1, e2, q⟩ => by cases e1; cases e2; exact q, fun q => ⟨_, _, rfl, rfl, q⟩⟩
theorem x_findT : rFindT (.str a) [.str b] H Q = Q (.int (Txt.find a b)) H := propext ⟨fun ⟨_, _, e1, e2, q⟩ => by cases e1; cases e2; exact q, fun q => ⟨_, _, rfl, rfl, q⟩⟩
theorem x_preT : rPreT (.str a) [.str b] H Q = (a.length ≤ sizeLine ∧ Q (.str (Txt.removeprefix a b)) H) := propext ⟨fun ⟨_, _, e1, e2, h, q⟩ => by cases e1; cases e2; exact ⟨h, q⟩, fun ⟨h, q⟩ => ⟨_, _, rfl, rfl, h, q⟩⟩
theorem x_lstT : rLstT (.str a) [.str b] H Q = (a.length ≤ sizeLine ∧ Q (.str (Txt.lstripChars a b)) H) := propext ⟨fun ⟨_, _, e1, e2, h, q⟩ => by cases e1; cases e2; exact ⟨h, q⟩, fun ⟨h, q⟩ => ⟨_, _, rfl, rfl, h, q⟩⟩
theorem x_zfT (h : PadOk i = true) : rZfT (.str a) [.int i] H Q = Q (.str (Txt.zfill a i)) H := propext ⟨fun ⟨_, _, e1, e2, _, q⟩ => by cases e1; cases e2; exact q, fun q => ⟨_, _, rfl, rfl, h, q⟩⟩
theorem x_ascT : rAscT (.str a) [] H Q = Q (.bl (Txt.isascii a)) H := propext ⟨fun ⟨_, e1, _, _, q⟩ => by cases e1; exact q, fun q => ⟨_, rfl, rfl, trivial, q⟩⟩
theorem x_digT : rDigT (.str a) [] H Q = Q (.bl (Txt.isdigit a)) H := propext ⟨fun ⟨_, e1, _, _, q⟩ => by cases e1; exact q, fun q => ⟨_, rfl, rfl, trivial, q⟩⟩
theorem x_parT (h : (b.length == 0) = false) : rParT (.str a) [.str b] H Q = (a.length ≤ sizeLine ∧ ∀ p, H p = none → Q (.ref p) (upd H p (.tup [.str (Txt.partition a b).1, .str (Txt.partition a b).2.1, .str (Txt.partition a b).2.2]))) := propext ⟨fun ⟨_, _, e1, e2, _, h, q⟩ => by cases e1; cases e2; exact ⟨h, q⟩, fun ⟨h', q⟩ => ⟨_, _, rfl, rfl, h, h', q⟩⟩
theorem x_splT (h : (b.length == 0) = false) : rSplT (.str a) [.str b] H Q = (a.length + 2 ≤ sizeLine ∧ ∀ p, H p = none → Q (.ref p) (upd H p (.lst ((Txt.split a b).map V.str)))) := propext ⟨fun ⟨_, _, e1, e2, _, h, q⟩ => by cases e1; cases e2; exact ⟨h, q⟩, fun ⟨h', q⟩ => ⟨_, _, rfl, rfl, h, h', q⟩⟩
end
section
variable {X : Cx}
theorem mt_startT : MtR X "str.startswith" rStartT := mt_startswith
theorem mt_findT : MtR X "str.find" rFindT := mt_find
theorem mt_preT : MtR X "str.removeprefix" rPreT := mt_removeprefix
theorem mt_lstT : MtR X "str.lstrip" rLstT := mt_lstripChars
theorem mt_zfT : MtR X "str.zfill" rZfT := mt_zfill
theorem mt_ascT : MtR X "str.isascii" rAscT := mt_isascii
theorem mt_digT : MtR X "str.isdigit" rDigT := mt_isdigit
theorem mt_parT : MtR X "str.partition" rParT := mt_partition
theorem mt_splT : MtR X "str.split" rSplT := mt_split
end
/-! ### f-strings, join, truth, divmod, constants -/
def tJn (ts : List TE) : TE := fun σ H Q => tJs ts Str.empty σ H fun out H1 => Q (.str out) H1
def rJoinT (K : PySem.W.Frag) : V → List V → Hp → VK → Prop := fun x xs H Q => ∃ (a : Str) (p : Addr) (ys : List Str), x = .str a ∧ xs = [.ref p] ∧ (SqL K H p (ys.map V.str) ∨ SqT K H p (ys.map V.str)) ∧ (ys.map (·.length)).sum + ys.length * a.length ≤ 16777216 ∧ Q (.str (Txt.join a ys)) H
theorem mt_joinT {X : Cx} : MtR X "str.join" (rJoinT X.K) := mt_join
def tTruK (K : PySem.W.Frag) (ta : TE) : TT := fun σ H Q => ta σ H fun x H' => ∃ k, TruV K x H' k ∧ Q k H'
def rDivW : List V → Hp → VK → Prop := fun xs H Q => ∃ i j, xs = [.int i, .int j] ∧ CDivP i j ∧ ∀ p, H p = none → Q (.ref p) (upd H p (.tup [.int (i / j), .int (i % j)]))
theorem pe_gc {X : Cx} {x : Str} {v : V} {pos : Pos} (hg : Gl X x) (h : ∃ u, X.mg x = some u ∧ RelV v u) (hd : (x == ("__debug__" : Str)) = false := by decide) : PE X (.Name x pos) (tC v) := by
  obtain ⟨u, hm, r⟩ := h
  exact pe_glob hg hm r hd
section
variable {σ : L2.St} {H : Hp} {Q : VK} {te : TE} {ts : List TE} {i j : Int} {a y : Str}
theorem x_jn : tJn ts σ H Q = tJs ts Str.empty σ H (fun out H1 => Q (.str out) H1) := rfl
theorem x_js0 {acc : Str} {R : Str → Hp → Prop} : tJs [] acc σ H R = R acc H := rfl
theorem x_js1 {acc : Str} {R : Str → Hp → Prop} : tJs (te :: ts) acc σ H R = te σ H (fun x H1 => ∃ y : Str, x = .str y ∧ (acc ++ y).length ≤ sizeLine ∧ tJs ts (acc ++ y) σ H1 R) := rfl
theorem x_isS {P : Str → Prop} : (∃ y : Str, V.str a = .str y ∧ P y) = P a := by simp
theorem x_fmt : tFmt te σ H Q = te σ H (fun x H1 => (∃ y : Str, x = .str y ∧ y.length ≤ sizeLine ∧ Q (.str y) H1) ∨ ∃ i : Int, x = .int i ∧ i.natAbs.log2 < 1920 ∧ Q (.str (toString i)) H1) := rfl
theorem x_fmtS {R : Str → Prop} : ((∃ z : Str, V.str y = .str z ∧ z.length ≤ sizeLine ∧ R z) ∨ ∃ i : Int, V.str y = .int i ∧ i.natAbs.log2 < 1920 ∧ R (toString i)) = (y.length ≤ sizeLine ∧ R y) := by simp
theorem x_divW : rDivW [.int i, .int j] H Q = (CDivP i j ∧ ∀ p, H p = none → Q (.ref p) (upd H p (.tup [.int (i / j), .int (i % j)]))) := propext ⟨fun ⟨_, _, e1, h, q⟩ => by cases e1; exact ⟨h, q⟩, fun ⟨h, q⟩ => ⟨_, _, rfl, h, q⟩⟩
theorem x_truK {K : PySem.W.Frag} {R : Bool → Hp → Prop} : tTruK K te σ H R = te σ H (fun x H' => ∃ k, TruV K x H' k ∧ R k H') := rfl
theorem x_truS {K : PySem.W.Frag} {R : Bool → Prop} : (∃ k, TruV K (.str y) H k ∧ R k) = (y.length ≤ sizeLine ∧ R ((y.length : Int) != 0)) := propext ⟨fun ⟨k, ⟨h1, h2⟩, q⟩ => ⟨h1, by rw [← h2]; exact q⟩, fun ⟨h1, q⟩ => ⟨_, ⟨h1, rfl⟩, q⟩⟩
end
/-! ### an own error that is made of a text -/
/-- class D's own __init__: super().__init__('..'), then self.text = text -/
def spBT (P : Program) (K : PySem.W.Frag) (mg : Str → Option Value) (D : Addr) : Sp := fun vs H Q _ => ∃ (a C : Addr) (v : V), vs = [.ref a, v] ∧ H a = some (exo a C none) ∧ SupC P K mg C D ∧ OexC K C ∧ PySem.W.findIn K (.ref C) "text" = some none ∧
  ∀ dx, H dx = none → dx ≠ a → Q .non (upd (upd H dx (exd dx [("text", v)])) a (exo a C (some dx)))
def t_bt (K : PySem.W.Frag) : TS := tOst K "text" (tVar 0) (tVar 1)
theorem pure_bt {P : Program} {K : PySem.W.Frag} {mg : Str → Option Value} {D : Addr} (vs : List V) (H : Hp) (Q : VK) (E : XK) (h : spBT P K mg D vs H Q E) :
    ∃ a C, vs[0]? = some (.ref a) ∧ H a = some (exo a C none) ∧ SupC P K mg C D ∧ t_bt K { nx := fun _ H' => Q .non H', rt := Q } (L2.start ["self", "text"] vs) H := by
  obtain ⟨a, C, v, rfl, ea, sc, oc, hno, k⟩ := h
  refine ⟨a, C, rfl, ea, sc, ?_⟩
  show t_bt K _ [some (.ref a), some v] H
  unfold t_bt tOst
  simp only [x_varS, x_var0]
  exact ⟨a, C, rfl, oc, hno, .inl ⟨ea, k⟩⟩
/-- raise C(e), C's own __init__ being that of D -/
def rTail (P : Program) (K : PySem.W.Frag) (mg : Str → Option Value) (D C : Addr) (W : XK) : V → Hp → Prop := fun v H1 => [v].length ≤ 1000 ∧ ∀ a, H1 a = none → spBT P K mg D (.ref a :: ([v] ++ [])) (upd H1 a (exo a C none))
  (fun v H2 => v = .non ∧ ∃ (d : Addr) (fs : List (Str × V)), H2 a = some (exo a C (some d)) ∧ H2 d = some (exd d fs) ∧ H1 d = none ∧ W (.ref C) (some d) (upd (del H2 a) d (.xd fs))) (fun _ _ _ => False)
def tRaiseT (P : Program) (K : PySem.W.Frag) (mg : Str → Option Value) (D C : Addr) (W : WX) (ta : TE) : TS := fun _ σ H => ta σ H fun v H1 => rTail P K mg D C (fun cls d H' => W cls d σ H') v H1
theorem x_raiseT {P : Program} {K : PySem.W.Frag} {mg : Str → Option Value} {D C : Addr} {W : WX} {ta : TE} {DD : Ends} {σ : L2.St} {H : Hp} : tRaiseT P K mg D C W ta DD σ H = ta σ H (fun v H1 => rTail P K mg D C (fun cls d H' => W cls d σ H') v H1) := rfl
/-- what the text says of the class C, whose __init__ is D's -/
structure TxtE (P : Program) (K : PySem.W.Frag) (mg : Str → Option Value) (D C fI : Addr) : Prop where
  ox : OexC K C
  ic : PySem.W.findIn K (.ref C) "__init__" = some (some (.ref fI))
  sc : SupC P K mg C D
  nt : PySem.W.findIn K (.ref C) "text" = some none
theorem tail_of {P : Program} {K : PySem.W.Frag} {mg : Str → Option Value} {D C fI : Addr} {W : XK} {v : V} {H1 : Hp} (T : TxtE P K mg D C fI) (k : ∀ d, H1 d = none → W (.ref C) (some d) (upd H1 d (.xd [("text", v)]))) : rTail P K mg D C W v H1 := by
  refine ⟨by simp, fun a ha => ⟨a, C, v, rfl, upd_same, T.sc, T.ox, T.nt, fun dx hdx hne => ⟨rfl, dx, _, upd_same, by rw [upd_ne hne, upd_same], ?_, ?_⟩⟩⟩
  · rw [upd_ne hne] at hdx
    exact hdx
  · have hd : H1 dx = none := by
      rw [upd_ne hne] at hdx
      exact hdx
    have e : upd (del (upd (upd (upd H1 a (exo a C none)) dx (exd dx [("text", v)])) a (exo a C (some dx))) a) dx (.xd [("text", v)]) = upd H1 dx (.xd [("text", v)]) := by
      funext b
      by_cases h1 : b = dx
      · rw [h1, upd_same, upd_same]
      · rw [upd_ne h1, upd_ne h1]
        by_cases h2 : b = a
        · rw [h2, del_same, ha]
        · rw [del_ne h2, upd_ne h2, upd_ne h1, upd_ne h2]
    rw [e]
    exact k dx hd
theorem ps_raiseT {X : Cx} {W : WX} {k : Nat} {x : Str} {C D fI : Addr} {fd : FuncData} {ps : List Str} {e : Expr} {te : TE} {p pos pos' : Pos} (hc : X.calm = true) (tk : Takes X W) (T : TxtE X.prog X.K X.mg D C fI) (tI : PySem.W.typeIn X.K (.ref fI) = some (.type "function"))
    (F : FnOk X.prog X.w X.K X.mg X.base CX0 k fI fd ps (spBT X.prog X.K X.mg D)) (hr : Room (k + 1) X.A) (hb : Binds X.K fd ps []) (hg : Gl X x) (hm : X.mg x = some (.ref C)) (he : PE X e te)
    (hdb : (x == ("__debug__" : Str)) = false := by decide) (hst : starEach [e] X.env = (false, eval e X.env) :: starEach [] X.env := by rfl) (hpl : (backTo pos (starEach [] X.env)).any (·.1) = false := by rfl) :
    PS X (.Raise (some (.Call (.Name x p) [e] [] pos)) none pos') (tRaiseT X.prog X.K X.mg D C W te) :=
  ps_raise hc tk (pmk_oex (dvs := []) (ds := []) T.ox T.ic tI F hr hb .nil pass0 hg hm (pa_cons he pa_nil hst) hdb hst hpl)
end SpX

set_option Elab.async false
set_option linter.all false
set_option maxRecDepth 100000
set_option maxHeartbeats 2000000
/-! What the methods of texts give, as lists of code points. -/
namespace SpX
open PySem PySem.Spec NumText L2
open TL (tl)
theorem tl_slash : tl "/" = [47] := by decide +kernel
theorem tl_minus : tl "-" = [45] := by decide +kernel
theorem tl_zero : tl "0" = [48] := by decide +kernel
theorem tl_empty : tl Str.empty = [] := rfl
theorem tl_len (x : Str) : x.length = (tl x).length := TL.len_tl x
theorem str_eq {x y : Str} (h : tl x = tl y) : x = y := TL.ext_tl h
theorem dec_str (x y : Str) : decide (x = y) = decide (tl x = tl y) := by
  by_cases h : x = y
  · rw [h]
    simp
  · have : tl x ≠ tl y := fun e => h (str_eq e)
    rw [decide_eq_false h, decide_eq_false this]
/-! ### a minus ahead -/
theorem subAt0 (x y : Str) : PySem.Builtin.Str.subAt x y 0 = ((tl x).take (tl y).length == tl y) := by
  rw [StrLaws.subAt_eq, List.drop_zero, tl_len y]
def neg? (l : List Nat) : Bool := l.head? == some 45
def body (l : List Nat) : List Nat := if neg? l = true then l.tail else l
theorem sub_minus (x : Str) : PySem.Builtin.Str.subAt x "-" 0 = neg? (tl x) := by
  rw [subAt0, tl_minus]
  unfold neg?
  cases tl x with
  | nil => rfl
  | cons c r =>
    show ((c :: r).take 1 == [45]) = _
    rw [List.take_succ_cons, List.take_zero, List.head?_cons]
    by_cases h : c = 45
    · rw [h] <;> rfl
    · have e1 : ([c] == [45]) = false := by simp [h]
      have e2 : (some c == some 45) = false := by simp [h]
      rw [e1, e2]
theorem startswith_minus (x : Str) : Txt.startswith x "-" = neg? (tl x) := by
  unfold Txt.startswith
  rw [sub_minus]
  cases h : neg? (tl x) with
  | false => rw [Bool.and_false]
  | true =>
    rw [Bool.and_true]
    have hl : ("-" : Str).length = 1 := by decide +kernel
    rw [hl, tl_len x]
    unfold neg? at h
    cases e : tl x with
    | nil => rw [e] at h; cases h
    | cons c r => simp
theorem removeprefix_minus (x : Str) : tl (Txt.removeprefix x "-") = body (tl x) := by
  unfold Txt.removeprefix body
  rw [sub_minus]
  cases h : neg? (tl x) with
  | false => rfl
  | true =>
    have hl : ("-" : Str).length = 1 := by decide +kernel
    rw [if_pos rfl, if_pos rfl]
    have e : tl (PySem.Builtin.Str.strSub x 1 x.length) = (tl x).tail := by
      rw [TL.tl_strSub_end, List.drop_one]
    show tl (if (x.length - ("-" : Str).length == x.length) = true then x else PySem.Builtin.Str.strSub x ("-" : Str).length x.length) = _
    rw [hl]
    have : (x.length - 1 == x.length) = false := by
      have : 0 < x.length := by
        rw [tl_len x]
        cases e' : tl x with
        | nil => rw [e'] at h; cases h
        | cons c r => simp
      simp
      omega
    rw [this, if_neg (by decide)]
    exact e
/-! ### parts at the first slash -/
theorem par47 (l acc : List Nat) : TL.par [47] acc l = (match part47 l with | (a, some b) => some (acc ++ a, b) | (_, none) => none) := by
  induction l generalizing acc with
  | nil => rfl
  | cons c r ih =>
    by_cases h : c = 47
    · subst h
      have hp : TL.pre [47] (47 :: r) = true := TL.pre_self [47] r
      rw [TL.par_hit hp]
      unfold part47
      simp
    · rw [TL.par_miss (TL.pre_of_head [] r h), ih]
      have e : part47 (c :: r) = (c :: (part47 r).1, (part47 r).2) := by
        conv => lhs; unfold part47
        rw [if_neg h]
      rw [e]
      cases h2 : part47 r with
      | mk a o =>
        cases o with
        | none => rfl
        | some b => simp
theorem spl47 (l acc : List Nat) : TL.spl [47] 0 acc l = (match part47 l with | (a, some b) => (acc ++ a) :: TL.spl [47] 0 [] b | (a, none) => [acc ++ a]) := by
  induction l generalizing acc with
  | nil =>
    rw [TL.spl_nil]
    show [acc] = [acc ++ []]
    rw [List.append_nil]
  | cons c r ih =>
    by_cases h : c = 47
    · subst h
      have hp : TL.pre [47] (47 :: r) = true := TL.pre_self [47] r
      rw [TL.spl_hit hp]
      unfold part47
      simp
    · rw [TL.spl_miss (TL.pre_of_head [] r h), ih]
      have e : part47 (c :: r) = (c :: (part47 r).1, (part47 r).2) := by
        conv => lhs; unfold part47
        rw [if_neg h]
      rw [e]
      cases h2 : part47 r with
      | mk a o =>
        cases o with
        | none => simp
        | some b => simp
theorem partition_slash (x : Str) : (match part47 (tl x) with
    | (a, some b) => tl (Txt.partition x "/").1 = a ∧ (Txt.partition x "/").2.1 = "/" ∧ tl (Txt.partition x "/").2.2 = b
    | (_, none) => Txt.partition x "/" = (x, Str.empty, Str.empty)) := by
  have hp := TL.partition_par x "/" (by rw [tl_slash]; simp)
  rw [tl_slash, par47] at hp
  cases h : part47 (tl x) with
  | mk a o =>
    rw [h] at hp
    cases o with
    | none => exact hp
    | some b =>
      dsimp only at hp ⊢
      rw [hp]
      exact ⟨by simp [TL.tl], rfl, by simp [TL.tl]⟩
theorem split_slash (x : Str) : (Txt.split x "/").map tl = TL.spl [47] 0 [] (tl x) := by
  have h := TL.split_spl x "/" (by rw [tl_slash]; simp) (TL.kind_ok (by decide +kernel))
  rw [tl_slash] at h
  exact h
/-! ### digits -/
theorem dig128 : ∀ c : Nat, c < 128 → PySem.Unicode.isDigit c = decide (48 ≤ c ∧ c ≤ 57) := by
  have : ∀ c : Fin 128, PySem.Unicode.isDigit c.val = decide (48 ≤ c.val ∧ c.val ≤ 57) := by decide +kernel
  intro c h
  exact this ⟨c, h⟩
theorem all_tl (x : Str) (p : Nat → Bool) : x.cps.all p = (tl x).all p := by simp [TL.tl]
def digs (l : List Nat) : Bool := !l.isEmpty && l.all fun c => decide (48 ≤ c ∧ c ≤ 57)
theorem digs_iff {l : List Nat} : digs l = true ↔ l ≠ [] ∧ AllDigits l := by
  unfold digs
  rw [Bool.and_eq_true, List.all_eq_true]
  constructor
  · rintro ⟨h1, h2⟩
    exact ⟨by simpa using h1, fun c hc => by simpa using h2 c hc⟩
  · rintro ⟨h1, h2⟩
    exact ⟨by simpa using h1, fun c hc => by simpa using h2 c hc⟩
theorem isdigit_ascii (x : Str) : (Txt.isascii x = true → Txt.isdigit x = digs (tl x)) ∧ (Txt.isascii x = false → digs (tl x) = false) := by
  unfold Txt.isascii Txt.isdigit digs
  rw [all_tl, all_tl, tl_len x]
  constructor
  · intro h
    have h' := List.all_eq_true.mp h
    have e : (tl x).all PySem.Unicode.isDigit = (tl x).all fun c => decide (48 ≤ c ∧ c ≤ 57) := by
      refine Bool.eq_iff_iff.mpr ?_
      rw [List.all_eq_true, List.all_eq_true]
      refine forall_congr' fun c => ⟨fun q hc => ?_, fun q hc => ?_⟩
      · rw [← dig128 c (by simpa using h' c hc)]
        exact q hc
      · rw [dig128 c (by simpa using h' c hc)]
        exact q hc
    rw [e]
    cases tl x <;> simp
  · intro h
    rw [Bool.eq_false_iff] at h ⊢
    intro q
    rw [Bool.and_eq_true, List.all_eq_true] at q
    refine h (List.all_eq_true.mpr fun c hc => ?_)
    have := q.2 c hc
    simp at this ⊢
    omega
/-- int of digits -/
theorem int_digits {x : Str} (h : AllDigits (tl x)) (h1 : tl x ≠ []) (h2 : (tl x).length ≤ 4300) : intText? x = some ((digitsVal (tl x) : Nat) : Int) := intText_digits h h1 (by rw [tl_len x]; exact h2)
/-- the signs of an int -/
def intD (n : Int) : List Nat := (if n < 0 then [45] else []) ++ numD n.natAbs
theorem tl_int (n : Int) : tl (Str.ofString (toString n)) = intD n := by
  unfold intD
  by_cases h : n < 0
  · rw [if_pos h, PyProof.Rows.toString_neg h]
    have e : Str.ofString ("-" ++ toString (0 - n)) = "-" ++ Str.ofString (toString (0 - n)) := by
      refine str_eq ?_
      rw [TL.tl_append, TL.tl_ofString, TL.tl_ofString, TL.tl_ofString, String.toList_append, List.map_append]
    rw [e, TL.tl_append, tl_minus]
    have : (0 - n) = ((n.natAbs : Nat) : Int) := by omega
    rw [this, TL.tl_num]
  · rw [if_neg h, List.nil_append]
    have : n = ((n.natAbs : Nat) : Int) := by omega
    conv => lhs; rw [this]
    exact TL.tl_num _
theorem intD_nat (n : Nat) : intD (n : Int) = numD n := by
  unfold intD
  rw [if_neg (by omega), List.nil_append, Int.natAbs_natCast]
/-- zeros ahead -/
theorem tl_zfill {x : Str} (h : AllDigits (tl x)) (k : Nat) : tl (Txt.zfill x (k : Int)) = List.replicate (k - (tl x).length) 48 ++ tl x := by
  unfold Txt.zfill
  by_cases hk : (k : Int) ≤ x.length
  · rw [if_pos hk]
    have : k - (tl x).length = 0 := by
      rw [tl_len x] at hk
      omega
    rw [this, List.replicate_zero, List.nil_append]
  · rw [if_neg hk]
    unfold PySem.zfilled
    have hc : x.cps[0]? = (tl x)[0]? := by simp [TL.tl]
    rw [hc]
    have e : tl (PySem.Builtin.Str.padded x ((k : Int).toNat - x.length) 0 48) = List.replicate (k - (tl x).length) 48 ++ tl x := by
      unfold PySem.Builtin.Str.padded
      rw [Int.toNat_natCast, tl_len x]
      simp [TL.tl]
    cases ht : tl x with
    | nil =>
      rw [ht] at e
      exact e
    | cons c r =>
      rw [ht] at e
      have hcd := h c (by rw [ht]; exact List.mem_cons_self)
      show tl (match some c with | some 43 | some 45 => _ | _ => _) = _
      split
      · rename_i q
        cases q
        omega
      · rename_i q
        cases q
        omega
      · exact e
/-- zeros ahead taken away -/
theorem tl_lstrip0 (x : Str) : tl (Txt.lstripChars x "0") = (tl x).dropWhile (· == 48) := by
  unfold Txt.lstripChars
  rw [PyProof.Rows.stripBy_eq]
  have hg : (("0" : Str).cps.contains : Nat → Bool) = fun c => c == 48 := by
    funext c
    have : ("0" : Str).cps = #[48] := by decide +kernel
    rw [this]
    simp [Array.contains, eq_comm]
  rw [hg]
  unfold PySem.stripLo PySem.stripHi
  rw [if_pos rfl, if_neg (by decide), TL.tl_strSub_end]
  have : ∀ l : List Nat, l.drop (l.takeWhile (· == 48)).length = l.dropWhile (· == 48) := fun l => by
    induction l with
    | nil => rfl
    | cons c r ih =>
      rw [List.takeWhile_cons, List.dropWhile_cons]
      by_cases h : (c == 48) = true
      · rw [if_pos h, if_pos h, List.length_cons, List.drop_succ_cons]
        exact ih
      · rw [if_neg h, if_neg h]
        rfl
  exact this _
/-- the parts of a text -/
theorem tl_cut (x : Str) (lo hi : Option Int) : tl (cutS x lo hi) = ((tl x).drop (HT.sIx (tl x).length 0 lo)).take (HT.sIx (tl x).length (tl x).length hi - HT.sIx (tl x).length 0 lo) := by
  unfold cutS
  rw [← tl_len x]
theorem tl_cut_from (x : Str) (k : Nat) : tl (cutS x (some (k : Int)) none) = (tl x).drop k := by
  rw [tl_cut, HT.sIx_nat, HT.sIx_none]
  by_cases h : k ≤ (tl x).length
  · rw [Nat.min_eq_left h]
    exact List.take_of_length_le (by rw [List.length_drop] <;> omega)
  · rw [Nat.min_eq_right (by omega), List.drop_length, List.take_nil, List.drop_eq_nil_of_le (by omega)]
theorem tl_cut_to (x : Str) (k : Nat) : tl (cutS x none (some (k : Int))) = (tl x).take k := by
  rw [tl_cut, HT.sIx_nat, HT.sIx_none, List.drop_zero, Nat.sub_zero]
  by_cases h : k ≤ (tl x).length
  · rw [Nat.min_eq_left h]
  · rw [Nat.min_eq_right (by omega), List.take_length, List.take_of_length_le (by omega)]
/-- joined without anything between -/
theorem tl_join0 (ys : List Str) : tl (Txt.join Str.empty ys) = (ys.map tl).flatten := by
  rw [TL.join_eq, TL.tl_join]
  have : ∀ l : List (List Nat), TL.joinL [] l = l.flatten := fun l => by
    induction l with
    | nil => rfl
    | cons a r ih =>
      cases r with
      | nil => simp [TL.joinL]
      | cons b r =>
        show a ++ ([] ++ TL.joinL [] (b :: r)) = _
        rw [ih, List.nil_append, List.flatten_cons (l := a)]
  exact this _
/-- a sign's place among the digits -/
theorem find_digit (c : Nat) : Txt.find "0123456789" ⟨#[c]⟩ = if 48 ≤ c ∧ c ≤ 57 then ((c : Int) - 48) else -1 := by
  have ht : tl "0123456789" = [48, 49, 50, 51, 52, 53, 54, 55, 56, 57] := by decide +kernel
  have hat : ∀ i, StrLaws.At "0123456789" ⟨#[c]⟩ ("0123456789" : Str).length i ↔ [48, 49, 50, 51, 52, 53, 54, 55, 56, 57][i]? = some c := fun i => by
    rw [← ht]
    exact StrLaws.subAt_one "0123456789" c i
  rcases PyProof.Rows.find_whole "0123456789" ⟨#[c]⟩ with ⟨e, hn⟩ | ⟨i, e, hi, _⟩
  · rw [e, if_neg]
    rintro ⟨h1, h2⟩
    refine hn (c - 48) ((hat _).mpr ?_)
    have : ∀ d : Fin 10, [48, 49, 50, 51, 52, 53, 54, 55, 56, 57][d.val]? = some (48 + d.val) := by decide
    have := this ⟨c - 48, by omega⟩
    rw [this]
    congr 1
    show 48 + (c - 48) = c
    omega
  · have h := (hat _).mp hi
    have hlt : i < 10 := by
      have := (List.getElem?_eq_some_iff.mp h).1
      simpa using this
    have : ∀ d : Fin 10, [48, 49, 50, 51, 52, 53, 54, 55, 56, 57][d.val]? = some (48 + d.val) := by decide
    have h2 := this ⟨i, hlt⟩
    rw [show (⟨i, hlt⟩ : Fin 10).val = i from rfl, h] at h2
    have h3 := Option.some.inj h2
    rw [e, if_pos (by omega)]
    omega
end SpX

set_option Elab.async false
set_option linter.all false
set_option maxRecDepth 100000
set_option maxHeartbeats 2000000
/-! The texts that are numbers. -/
namespace SpX
open PySem PySem.Spec NumText L2
def cnt (l : List Nat) : Bool := decide (l.length ≤ 60) && digs l
def grp (l : List Nat) : Option Nat := if cnt l = true ∧ (1 < l.length → l.head? ≠ some 48) then some (digitsVal l) else none
def sgn (l : List Nat) (n : Nat) : Int := if neg? l = true then -(n : Int) else n
def numOf (l : List Nat) : Option (Int × Int) :=
  match part47 (body l) with
  | (a, none) => match grp a with
    | some n => if neg? l = true ∧ n = 0 then none else some (sgn l n, 1)
    | none => none
  | (a, some r) => match grp a, grp r with
    | some n, some m => if m < 2 ∨ Nat.gcd n m ≠ 1 then none else if neg? l = true ∧ n = 0 then none else some (sgn l n, (m : Int))
    | _, _ => none
theorem cnt_iff {l : List Nat} : cnt l = true ↔ l.length ≤ 60 ∧ l ≠ [] ∧ AllDigits l := by
  unfold cnt
  rw [Bool.and_eq_true, decide_eq_true_eq, digs_iff]
theorem cnt_lt {l : List Nat} (h : cnt l = true) : digitsVal l < 10 ^ 60 := by
  obtain ⟨h1, h2, h3⟩ := cnt_iff.mp h
  exact Nat.lt_of_lt_of_le (digitsVal_lt h3) (Nat.pow_le_pow_right (by decide) h1)
theorem grp_some {l : List Nat} {n : Nat} (h : grp l = some n) : cnt l = true ∧ Canon l ∧ n = digitsVal l ∧ numD n = l ∧ n < 10 ^ 60 := by
  unfold grp at h
  split at h
  · rename_i q
    obtain ⟨q1, q2⟩ := q
    have e := Option.some.inj h
    obtain ⟨h1, h2, h3⟩ := cnt_iff.mp q1
    have c : Canon l := ⟨h3, h2, q2⟩
    refine ⟨q1, c, e.symm, ?_, ?_⟩
    · rw [← e]
      exact canon_num c
    · rw [← e]
      exact cnt_lt q1
  · cases h
theorem grp_num {n : Nat} (h : n < 10 ^ 60) : grp (numD n) = some n := by
  unfold grp
  have c := num_canon n
  rw [if_pos ⟨cnt_iff.mpr ⟨num_len (by decide) h, c.ne, c.dig⟩, c.lead⟩, num_val]
theorem grp_cnt {l : List Nat} (h : cnt l = false) : grp l = none := by
  unfold grp
  rw [if_neg]
  rintro ⟨q, _⟩
  rw [h] at q
  cases q
theorem num_no {n c : Nat} (h : c < 48 ∨ 57 < c) : c ∉ numD n := TL.numL_free h
theorem num_head_ne {n c : Nat} (h : c < 48 ∨ 57 < c) (r : List Nat) : (numD n ++ r).head? ≠ some c := by
  have hn := num_ne n
  cases e : numD n with
  | nil => exact absurd e hn
  | cons a t =>
    have := num_dig n a (by rw [e]; exact List.mem_cons_self)
    intro q
    have := Option.some.inj q
    omega
theorem neg_written (t b : Int) : neg? (written t b) = decide (t < 0) := by
  unfold written neg?
  by_cases h : t < 0
  · rw [if_pos h, decide_eq_true h]
    rfl
  · rw [if_neg h, decide_eq_false h, List.nil_append]
    have := num_head_ne (n := t.natAbs) (c := 45) (.inl (by decide)) (if b = 1 then [] else 47 :: numD b.natAbs)
    exact beq_eq_false_iff_ne.mpr this
theorem body_written (t b : Int) : body (written t b) = numD t.natAbs ++ (if b = 1 then [] else 47 :: numD b.natAbs) := by
  unfold body
  rw [neg_written]
  unfold written
  by_cases h : t < 0
  · rw [decide_eq_true h, if_pos rfl, if_pos h]
    rfl
  · rw [decide_eq_false h, if_neg (by decide), if_neg h, List.nil_append]
theorem numOf_written {t b : Int} (hb : 0 < b) (hg : Nat.gcd t.natAbs b.natAbs = 1) (ht : t.natAbs < 10 ^ 60) (hb' : b.natAbs < 10 ^ 60) : numOf (written t b) = some (t, b) := by
  have free : 47 ∉ numD t.natAbs := num_no (.inl (by decide))
  have sg : sgn (written t b) t.natAbs = t := by
    unfold sgn
    rw [neg_written]
    by_cases h : t < 0
    · rw [decide_eq_true h, if_pos rfl]
      omega
    · rw [decide_eq_false h, if_neg (by decide)]
      omega
  have nz : ¬ (neg? (written t b) = true ∧ t.natAbs = 0) := by
    rw [neg_written]
    rintro ⟨h1, h2⟩
    have := of_decide_eq_true h1
    omega
  unfold numOf
  rw [body_written]
  by_cases h1 : b = 1
  · rw [if_pos h1, List.append_nil, part47_free free]
    dsimp only
    rw [grp_num ht]
    dsimp only
    rw [if_neg nz, sg, h1]
  · rw [if_neg h1, part47_at free]
    dsimp only
    rw [grp_num ht, grp_num hb']
    dsimp only
    rw [if_neg (by omega), if_neg nz, sg]
    congr 2
    omega
theorem body_back (l : List Nat) : l = (if neg? l = true then [45] else []) ++ body l := by
  unfold body
  cases h : neg? l with
  | false => rfl
  | true =>
    unfold neg? at h
    cases l with
    | nil => cases h
    | cons c r =>
      rw [List.head?_cons] at h
      have : c = 45 := by simpa using h
      rw [this]
      rfl
theorem sgn_neg {l : List Nat} {n : Nat} (h : ¬ (neg? l = true ∧ n = 0)) : (sgn l n < 0) = (neg? l = true) := by
  unfold sgn
  refine propext ⟨fun q => ?_, fun q => ?_⟩
  · split at q
    · assumption
    · omega
  · rw [if_pos q]
    have : n ≠ 0 := fun e => h ⟨q, e⟩
    omega
theorem sgn_abs {l : List Nat} {n : Nat} : (sgn l n).natAbs = n := by
  unfold sgn
  split <;> omega
theorem numOf_sound {l : List Nat} {t b : Int} (h : numOf l = some (t, b)) : written t b = l ∧ 0 < b ∧ Nat.gcd t.natAbs b.natAbs = 1 ∧ t.natAbs < 10 ^ 60 ∧ b.natAbs < 10 ^ 60 := by
  have hb := body_back l
  have hp := part47_back (body l)
  unfold numOf at h
  cases e : part47 (body l) with
  | mk a o =>
    rw [e] at h hp
    cases o with
    | none =>
      dsimp only at h hp
      cases g : grp a with
      | none => rw [g] at h; cases h
      | some n =>
        rw [g] at h
        dsimp only at h
        split at h
        · cases h
        · rename_i hn
          cases h
          obtain ⟨_, _, _, g4, g5⟩ := grp_some g
          refine ⟨?_, by decide, by simp, by rw [sgn_abs]; exact g5, by decide +kernel⟩
          unfold written
          rw [if_pos rfl, List.append_nil, sgn_abs, g4]
          conv => rhs; rw [hb, hp.1, List.append_nil]
          have sw : (if sgn l n < 0 then [45] else []) = (if neg? l = true then [45] else []) := by simp only [sgn_neg hn]
          rw [sw]
    | some r =>
      dsimp only at h hp
      cases g : grp a with
      | none => rw [g] at h; cases h
      | some n =>
        cases g' : grp r with
        | none => rw [g, g'] at h; cases h
        | some m =>
          rw [g, g'] at h
          dsimp only at h
          split at h
          · cases h
          · rename_i hm
            split at h
            · cases h
            · rename_i hn
              cases h
              obtain ⟨_, _, _, g4, g5⟩ := grp_some g
              obtain ⟨_, _, _, k4, k5⟩ := grp_some g'
              refine ⟨?_, by omega, ?_, by rw [sgn_abs]; exact g5, by rw [Int.natAbs_natCast]; exact k5⟩
              · unfold written
                have m1 : ¬ ((m : Int) = 1) := by omega
                have sw : (if sgn l n < 0 then [45] else []) = (if neg? l = true then [45] else []) := by simp only [sgn_neg hn]
                rw [if_neg m1, sgn_abs, g4, Int.natAbs_natCast, k4, sw]
                conv => rhs; rw [hb, hp.1]
                rw [List.append_assoc]
              · rw [sgn_abs, Int.natAbs_natCast]
                exact Classical.byContradiction fun q => hm (.inr q)
/-- the two parts that are read -/
def partA (l : List Nat) : List Nat := (part47 (body l)).1
def partB (l : List Nat) : List Nat := match (part47 (body l)).2 with | none => [49] | some y => y
theorem numOf_bad {l : List Nat} (h : cnt (partA l) = false ∨ cnt (partB l) = false ∨ digitsVal (partB l) = 0) : numOf l = none := by
  unfold partA partB at h
  unfold numOf
  cases e : part47 (body l) with
  | mk a o =>
    rw [e] at h
    cases o with
    | none =>
      dsimp only at h ⊢
      rcases h with h | h | h
      · rw [grp_cnt h]
      · exact absurd h (by decide)
      · exact absurd h (by decide)
    | some r =>
      dsimp only at h ⊢
      rcases h with h | h | h
      · rw [grp_cnt h]
      · rw [grp_cnt h]
        cases grp a <;> rfl
      · cases grp a with
        | none => rfl
        | some n =>
          cases g : grp r with
          | none => rfl
          | some m =>
            dsimp only
            obtain ⟨_, _, g3, _⟩ := grp_some g
            rw [if_pos (.inl (by omega))]
theorem numOf_parts {l : List Nat} {t b : Int} (h : numOf l = some (t, b)) : t = sgn l (digitsVal (partA l)) ∧ b = ((digitsVal (partB l) : Nat) : Int) := by
  unfold partA partB
  unfold numOf at h
  cases e : part47 (body l) with
  | mk a o =>
    rw [e] at h
    cases o with
    | none =>
      dsimp only at h ⊢
      cases g : grp a with
      | none => rw [g] at h; cases h
      | some n =>
        rw [g] at h
        dsimp only at h
        split at h
        · cases h
        · cases h
          rw [(grp_some g).2.2.1]
          exact ⟨rfl, by decide⟩
    | some r =>
      dsimp only at h ⊢
      cases g : grp a with
      | none => rw [g] at h; cases h
      | some n =>
        cases g' : grp r with
        | none => rw [g, g'] at h; cases h
        | some m =>
          rw [g, g'] at h
          dsimp only at h
          split at h
          · cases h
          · split at h
            · cases h
            · cases h
              rw [(grp_some g).2.2.1, (grp_some g').2.2.1]
              exact ⟨rfl, rfl⟩
/-- what was read, written again -/
theorem numOf_again {l : List Nat} {t b : Int} (ha : cnt (partA l) = true) (hb : cnt (partB l) = true) (h0 : digitsVal (partB l) ≠ 0) (hn : Norm t b (sgn l (digitsVal (partA l))) (digitsVal (partB l) : Nat)) :
    numOf l = (if written t b = l then some (t, b) else none) := by
  have la := cnt_lt ha
  have lb := cnt_lt hb
  have le := hn.le (by omega)
  rw [sgn_abs, Int.natAbs_natCast] at le
  by_cases h : written t b = l
  · rw [if_pos h]
    conv => lhs; rw [← h]
    exact numOf_written hn.pos hn.cop (by omega) (by omega)
  · rw [if_neg h]
    cases e : numOf l with
    | none => rfl
    | some p =>
      exfalso
      obtain ⟨x, y⟩ := p
      obtain ⟨e1, e2⟩ := numOf_parts e
      obtain ⟨s1, s2, s3, _⟩ := numOf_sound e
      refine h ?_
      rw [← e1, ← e2] at hn
      have q := hn.eq
      have c1 := hn.cop
      -- t / b and x / y, both in lowest terms
      have d1 : b.natAbs ∣ y.natAbs := by
        have : b.natAbs ∣ t.natAbs * y.natAbs := ⟨x.natAbs, by rw [← Int.natAbs_mul, q, Int.natAbs_mul, Nat.mul_comm]⟩
        exact Nat.Coprime.dvd_of_dvd_mul_left (Nat.Coprime.symm c1) this
      have d2 : y.natAbs ∣ b.natAbs := by
        have : y.natAbs ∣ x.natAbs * b.natAbs := ⟨t.natAbs, by rw [← Int.natAbs_mul, ← q, Int.natAbs_mul, Nat.mul_comm]⟩
        exact Nat.Coprime.dvd_of_dvd_mul_left (Nat.Coprime.symm s3) this
      have d3 := Nat.dvd_antisymm d1 d2
      have p := hn.pos
      have hby : b = y := by omega
      subst hby
      have : t = x := Int.eq_of_mul_eq_mul_right (by omega) q
      rw [this]
      exact s1
end SpX

set_option Elab.async false
set_option linter.all false
set_option maxRecDepth 100000
set_option maxHeartbeats 4000000
/-! What the laws draw: the pool, an int below a bound, the greatest common divisor. -/
namespace SpX
open PySem PySem.Spec L2
def t_pool (K : PySem.W.Frag) : TS :=
    (tSeq (tAsg (tLst tNil) (gName 1))
    (tSeq (tAsg (tLst tNil) (gName 2))
    (tSeq (tFor (iList K (tVar 0)) (gName 3) ((tIfS (tTest (tOp (rI0 fun i j => .bl (decide (j ≤ i))) (tCB rAbs1 (tCons (tCB rInt1 (tCons (tVar 3) tNil)) tNil)) (tOp (rI CPow fun i j => .int (i ^ j.toNat)) (tC (.int 10)) (tC (.int 18))))) (tDrop (tBM K "list" rAppend (tVar 1) (tCons (tCB rAbs1 (tCons (tCB rInt1 (tCons (tVar 3) tNil)) tNil)) tNil))) (tDrop (tBM K "list" rAppend (tVar 2) (tCons (tCB rAbs1 (tCons (tCB rInt1 (tCons (tVar 3) tNil)) tNil)) tNil))))))
    (tSeq (tIfS (tTest (tOp rEq (tCB rLenA (tCons (tVar 2) tNil)) (tC (.int 0)))) (tDrop (tBM K "list" rAppend (tVar 2) (tCons (tCB rLenA (tCons (tVar 1) tNil)) tNil))) tNext)
    (tRet (tLst (tCons (tVar 1) (tCons (tVar 2) (tCons (tC (.int 0)) tNil)))))))))
def t_take (K : PySem.W.Frag) : TS :=
    (tSeq (tIfS (tTest (tOp (rI0 fun i j => .bl (decide (i < j))) (tVar 1) (tC (.int 2)))) (tRet (tC (.int 0))) tNext)
    (tSeq (tIfS (tTest (tOp (rI0 fun i j => .bl (decide (j < i))) (tCB rLenA (tCons (tOp rIx1 (tVar 0) (tC (.int 0))) tNil)) (tC (.int 0)))) (tSeq (tAsg (tOp rIx1 (tOp rIx1 (tVar 0) (tC (.int 0))) (tC (.int 0))) (gName 5))
    (tSeq (tAsg (tCB rListA (tCons (tSl rSlA (tOp rIx1 (tVar 0) (tC (.int 0))) (tPart (tC (.int 1))) tNoPart) tNil)) (gName 6))
    (tSeq (tIfS (tTest (tOp (rI0 fun i j => .bl (decide (j < i))) (tOp (rI CDivF fun i j => .int (i.fdiv j)) (tVar 5) (tVar 1)) (tC (.int 0)))) (tAsg (tOp rCat (tLst (tCons (tOp (rI CDivF fun i j => .int (i.fdiv j)) (tVar 5) (tVar 1)) tNil)) (tVar 6)) (gName 6)) tNext)
    (tSeq (tAsg (tVar 6) (gSub (tVar 0) (tC (.int 0)) rSetL))
    (tRet (tOp (rI (fun _ j => 0 < j) fun i j => .int (i % j)) (tCB rInt1 (tCons (tVar 5) tNil)) (tVar 1))))))) tNext)
    (tSeq (tAsg (tOp rIx1 (tVar 0) (tC (.int 2))) (gName 2))
    (tSeq (tAsg (tOp (rI0 fun i j => .int (i + j)) (tVar 2) (tC (.int 1))) (gSub (tVar 0) (tC (.int 2)) rSetL))
    (tSeq (tAsg (tOp rIx1 (tOp rIx1 (tVar 0) (tC (.int 1))) (tOp (rI (fun _ j => 0 < j) fun i j => .int (i % j)) (tCB rInt1 (tCons (tOp (rI CDivF fun i j => .int (i.fdiv j)) (tVar 2) (tC (.int 4))) tNil)) (tCB rLenA (tCons (tOp rIx1 (tVar 0) (tC (.int 1))) tNil)))) (gName 3))
    (tSeq (tAsg (tOp (rI (fun _ j => 0 < j) fun i j => .int (i % j)) (tCB rInt1 (tCons (tOp (rI0 fun i j => .int (i + j)) (tOp (rI0 fun i j => .int (i + j)) (tOp (rI IntMulOk fun i j => .int (i * j)) (tVar 3) (tC (.int 48271))) (tOp (rI IntMulOk fun i j => .int (i * j)) (tVar 2) (tC (.int 69621)))) (tC (.int 12345))) tNil)) (tC (.int 2147483647))) (gName 4))
    (tSeq (tAsg (tOp (rI (fun _ j => 0 < j) fun i j => .int (i % j)) (tCB rInt1 (tCons (tOp (rI0 fun i j => .int (i + j)) (tOp (rI0 fun i j => .int (i + j)) (tOp (rI IntMulOk fun i j => .int (i * j)) (tVar 4) (tVar 4)) (tOp (rI IntMulOk fun i j => .int (i * j)) (tVar 2) (tC (.int 40692)))) (tC (.int 7))) tNil)) (tC (.int 2147483399))) (gName 4))
    (tSeq (tAsg (tOp (rI (fun _ j => 0 < j) fun i j => .int (i % j)) (tCB rInt1 (tCons (tOp (rI0 fun i j => .int (i + j)) (tOp (rI0 fun i j => .int (i + j)) (tOp (rI IntMulOk fun i j => .int (i * j)) (tVar 4) (tVar 4)) (tVar 3)) (tC (.int 3))) tNil)) (tC (.int 2147483563))) (gName 4))
    (tRet (tOp (rI (fun _ j => 0 < j) fun i j => .int (i % j)) (tCB rInt1 (tCons (tOp (rI CDivF fun i j => .int (i.fdiv j)) (tVar 4) (tC (.int 7))) tNil)) (tVar 1)))))))))))
def t_integer (K : PySem.W.Frag) : TS :=
    (tRet (tAndV (tCB (rIsi K) (tCons (tVar 0) (tCons (tC (.ty "int")) tNil))) (tNotV (tCB (rIsi K) (tCons (tVar 0) (tCons (tC (.ty "bool")) tNil))))))
def t_common (K : PySem.W.Frag) : TS :=
    (tSeq (tAsg (tCB rAbs1 (tCons (tVar 0) tNil)) (gName 0))
    (tSeq (tAsg (tCB rAbs1 (tCons (tVar 1) tNil)) (gName 1))
    (tSeq (tFor (iRng1 (tCons (tOp (rI0 fun i j => .int (i + j)) (tOp (rI IntMulOk fun i j => .int (i * j)) (tC (.int 2)) (tBits (tVar 1))) (tC (.int 2))) tNil)) (gName 2) ((tSeq (tIfS (tTest (tOp rEq (tVar 1) (tC (.int 0)))) (tRet (tVar 0)) tNext)
    (tSeq (tAsg (tOp (rI (fun _ j => 0 < j) fun i j => .int (i % j)) (tCB rInt1 (tCons (tVar 0) tNil)) (tVar 1)) (gName 3))
    (tSeq (tAsg (tVar 1) (gName 0))
    (tAsg (tVar 3) (gName 1)))))))
    (tRet (tVar 0)))))
/-- a pool: two lists of ints (the second not empty) and a count -/
structure PoolIs (H : Hp) (P g s : Addr) (G S : List Int) (c : Int) : Prop where
  p : H P = some (.lst [.ref g, .ref s, .int c])
  g : H g = some (.lst (G.map V.int))
  s : H s = some (.lst (S.map V.int))
  lg : G.length ≤ 64
  ls : S.length ≤ 64
  ne : S ≠ []
def PoolAt (H : Hp) (P : Addr) : Prop := ∃ g s G S c, PoolIs H P g s G S c
theorem PoolIs.pg {H : Hp} {P g s : Addr} {G S : List Int} {c : Int} (h : PoolIs H P g s G S c) : g ≠ P := fun e => by
  have h1 := h.g
  rw [e, h.p] at h1
  cases G with
  | nil => cases h1
  | cons a r => cases h1
theorem PoolIs.ps {H : Hp} {P g s : Addr} {G S : List Int} {c : Int} (h : PoolIs H P g s G S c) : s ≠ P := fun e => by
  have h1 := h.s
  rw [e, h.p] at h1
  cases S with
  | nil => cases h1
  | cons a r => cases h1
/-- the pool, an int below the bound; nothing but the pool changes -/
def spTake : Sp := fun vs H Q _ => ∃ (P : Addr) (most : Int), vs = [.ref P, .int most] ∧ PoolAt H P ∧ most.natAbs < 2 ^ 8000 ∧
  ∀ (r : Int) (H' : Hp), PoolAt H' P → Keep P H H' → 0 ≤ r → (2 ≤ most → r < most) → (most < 2 → r = 0) → Q (.int r) H'
theorem atI_map {S : List Int} {i : Int} (h0 : 0 ≤ i) (h1 : i < (S.length : Int)) : ∃ z, atI (S.map V.int) i = some (.int z) := by
  obtain ⟨n, rfl⟩ := Int.eq_ofNat_of_zero_le h0
  have hn : n < S.length := by omega
  refine ⟨S[n], ?_⟩
  rw [atI_nat (v := .int S[n]) (by rw [List.getElem?_map, List.getElem?_eq_getElem hn]; rfl)]
theorem small_div {i : Int} {j : Int} (h : 0 < j ∧ j < 1000) : CDivF i j := ⟨by omega, by
  have h1 : j.natAbs < 2 ^ 10 := by omega
  exact Nat.lt_of_lt_of_le (PySem.Flt.log2_lt_of (by decide) h1) (by decide)⟩
theorem pos_div {i : Int} {j : Int} (h0 : 0 < j) (h : j.natAbs < 2 ^ 8000) : CDivF i j := ⟨by omega, Nat.lt_of_lt_of_le (PySem.Flt.log2_lt_of (by decide) h) (by decide)⟩
theorem any_div {i : Int} {j : Int} (h0 : j ≠ 0) (h : j.natAbs < 2 ^ 8000) : CDivF i j := ⟨h0, Nat.lt_of_lt_of_le (PySem.Flt.log2_lt_of (by decide) h) (by decide)⟩
theorem pure_take {K : PySem.W.Frag} (vs : List V) (H : Hp) (Q : VK) (E : XK) (h : spTake vs H Q E) : t_take K { nx := fun _ H' => Q .non H', rt := Q } (start ["pool", "most", "count", "seed", "mixed", "value", "rest"] vs) H := by
  obtain ⟨P, most, rfl, ⟨g, s, G, S, c, hp⟩, hm, k⟩ := h
  have npg := hp.pg
  have nps := hp.ps
  obtain ⟨h1, h2, h3, hG, hS, hS0⟩ := id hp
  show t_take K _ [some (.ref P), some (.int most), none, none, none, none, none] H
  unfold t_take
  have a0 : atI [V.ref g, .ref s, .int c] 0 = some (.ref g) := rfl
  have a1 : atI [V.ref g, .ref s, .int c] 1 = some (.ref s) := rfl
  have a2 : atI [V.ref g, .ref s, .int c] 2 = some (.int c) := rfl
  have ix0 : ixN [V.ref g, .ref s, .int c].length 0 = some 0 := rfl
  have ix2 : ixN [V.ref g, .ref s, .int c].length 2 = some 2 := rfl
  simp only [x_seq, x_if, x_test, x_B, x_op, x_un, x_varS, x_var0, x_c, x_I0, x_I, x_U, x_bl, x_ret, x_next, x_asg, x_name, x_set0, x_setS, x_drop, x_cb, x_cons, x_nil, x_int1, x_abs1, x_max2, x_gcd, x_gsub, x_sl, x_part, x_nopart, x_int, x_call, x_lst, x_tup, x_not, x_and, x_or, x_andV, x_orV, x_notV, x_ifE, x_eqI, x_neI, x_eqB, x_neB, x_tbm, decide_eq_true_eq, List.append_nil, List.nil_append, List.cons_append, x_ix h1 a0, x_lenA h2, List.length_map]
  refine ite2 (fun hlt => k 0 H ⟨g, s, G, S, c, hp⟩ (Keep.refl _ _) (Int.le_refl _) (fun z => absurd hlt (by omega)) fun _ => rfl) fun hge => ?_
  have hmost : (0 : Int) < most := by omega
  refine ite2 (fun hlen => ?_) (fun hlen => ?_)
  · -- an int of the greats
    obtain ⟨z, G', rfl⟩ : ∃ z G', G = z :: G' := by
      cases G with
      | nil => exact absurd hlen (by simp)
      | cons a r => exact ⟨a, r, rfl⟩
    have b0 : atI ((z :: G').map V.int) 0 = some (.int z) := atI_0
    have ec : cutV ((z :: G').map V.int) (some 1) none = G'.map V.int := by
      unfold cutV
      rw [show (1 : Int) = ((1 : Nat) : Int) from rfl, HT.sIx_nat, HT.sIx_none]
      simp only [List.map_cons, List.length_cons, List.length_map, Nat.add_sub_cancel]
      rw [Nat.min_eq_left (by omega)]
      simp only [List.drop_succ_cons, List.drop_zero, Nat.add_sub_cancel]
      rw [← List.length_map (f := V.int) (as := G'), List.take_length]
    simp only [x_seq, x_if, x_test, x_B, x_op, x_un, x_varS, x_var0, x_c, x_I0, x_I, x_U, x_bl, x_ret, x_next, x_asg, x_name, x_set0, x_setS, x_drop, x_cb, x_cons, x_nil, x_int1, x_abs1, x_max2, x_gcd, x_gsub, x_sl, x_part, x_nopart, x_int, x_call, x_lst, x_tup, x_not, x_and, x_or, x_andV, x_orV, x_notV, x_ifE, x_eqI, x_neI, x_eqB, x_neB, x_tbm, decide_eq_true_eq, List.append_nil, List.nil_append, List.cons_append, x_ix h2 b0, x_ix h1 a0, x_slA h2, ec]
    intro q hq
    have hq1 : (upd H q (.lst (G'.map V.int))) q = some (.lst (G'.map V.int)) := upd_same
    simp only [x_listA hq1]
    intro q2 hq2
    have e2 : (upd (upd H q (.lst (G'.map V.int))) q2 (.lst (G'.map V.int))) q2 = some (.lst (G'.map V.int)) := upd_same
    have s2 : Same H (upd (upd H q (.lst (G'.map V.int))) q2 (.lst (G'.map V.int))) := Same.new' (Same.new hq) hq2
    generalize (upd (upd H q (.lst (G'.map V.int))) q2 (.lst (G'.map V.int))) = H2 at e2 s2
    -- behind: the rest is stored, the remainder goes back
    have fin : ∀ (r : Addr) (H3 : Hp) (R : List Int), R.length ≤ 64 → H3 r = some (.lst (R.map V.int)) → Same H H3 →
        Q (.int (z % most)) (upd H3 P (.lst [.ref r, .ref s, .int c])) := by
      intro r H3 R hR hr s3
      have hrP : r ≠ P := by
        intro e
        have hP := s3 _ _ h1
        rw [e, hP] at hr
        cases R with
        | nil => cases hr
        | cons a l => cases hr
      refine k _ _ ⟨r, s, R, S, c, ⟨upd_same, ?_, ?_, hR, hS, hS0⟩⟩ (Keep.at (Keep.of s3)) (Int.emod_nonneg _ (by omega)) (fun _ => Int.emod_lt_of_pos _ hmost) (fun z => absurd z (by omega))
      · rw [upd_ne hrP]
        exact hr
      · rw [upd_ne nps]
        exact s3 _ _ h3
    have hP2 := s2 _ _ h1
    refine ⟨pos_div hmost hm, ?_⟩
    refine ite2 (fun hd => ?_) (fun hd => ?_)
    · refine ⟨pos_div hmost hm, by show 1 ≤ sizeLine; decide, fun q3 hq3 => ?_⟩
      have e3 : (upd H2 q3 (.lst [.int (z.fdiv most)])) q3 = some (.lst [.int (z.fdiv most)]) := upd_same
      have s3 : Same H2 (upd H2 q3 (.lst [.int (z.fdiv most)])) := Same.new hq3
      have e4 := s3 _ _ e2
      generalize (upd H2 q3 (.lst [.int (z.fdiv most)])) = H3 at e3 s3 e4
      simp only [x_cat e3 e4 (by rw [List.length_map]; exact sl5 (by simp only [List.length_cons] at hG; simp only [List.length_cons, List.length_nil]; omega))]
      intro q4 hq4
      have e5 : (upd H3 q4 (.lst ([V.int (z.fdiv most)] ++ G'.map V.int))) q4 = some (.lst ((z.fdiv most :: G').map V.int)) := upd_same
      have s5 : Same H (upd H3 q4 (.lst ([V.int (z.fdiv most)] ++ G'.map V.int))) := Same.new' (s2.trans s3) hq4
      generalize (upd H3 q4 (.lst ([V.int (z.fdiv most)] ++ G'.map V.int))) = H5 at e5 s5
      simp only [x_seq, x_if, x_test, x_B, x_op, x_un, x_varS, x_var0, x_c, x_I0, x_I, x_U, x_bl, x_ret, x_next, x_asg, x_name, x_set0, x_setS, x_drop, x_cb, x_cons, x_nil, x_int1, x_abs1, x_max2, x_gcd, x_gsub, x_sl, x_part, x_nopart, x_int, x_call, x_lst, x_tup, x_not, x_and, x_or, x_andV, x_orV, x_notV, x_ifE, x_eqI, x_neI, x_eqB, x_neB, x_tbm, decide_eq_true_eq, List.append_nil, List.nil_append, List.cons_append, x_setL (s5 _ _ h1) ix0]
      exact ⟨hmost, fin q4 H5 (z.fdiv most :: G') hG e5 s5⟩
    · simp only [x_seq, x_if, x_test, x_B, x_op, x_un, x_varS, x_var0, x_c, x_I0, x_I, x_U, x_bl, x_ret, x_next, x_asg, x_name, x_set0, x_setS, x_drop, x_cb, x_cons, x_nil, x_int1, x_abs1, x_max2, x_gcd, x_gsub, x_sl, x_part, x_nopart, x_int, x_call, x_lst, x_tup, x_not, x_and, x_or, x_andV, x_orV, x_notV, x_ifE, x_eqI, x_neI, x_eqB, x_neB, x_tbm, decide_eq_true_eq, List.append_nil, List.nil_append, List.cons_append, x_setL hP2 ix0]
      exact ⟨hmost, fin q2 H2 G' (by simp only [List.length_cons] at hG; omega) e2 s2⟩
  · -- an int reckoned of the smalls
    have h4 : (upd H P (.lst [.ref g, .ref s, .int (c + 1)])) P = some (.lst [.ref g, .ref s, .int (c + 1)]) := upd_same
    have h5 : (upd H P (.lst [.ref g, .ref s, .int (c + 1)])) s = some (.lst (S.map V.int)) := by
      rw [upd_ne nps]
      exact h3
    have hp4 : PoolAt (upd H P (.lst [.ref g, .ref s, .int (c + 1)])) P := ⟨g, s, G, S, c + 1, ⟨h4, by rw [upd_ne npg]; exact h2, h5, hG, hS, hS0⟩⟩
    have k4 : Keep P H (upd H P (.lst [.ref g, .ref s, .int (c + 1)])) := Keep.at (Keep.refl _ _)
    have es : ([V.ref g, .ref s, .int c].set 2 (.int (c + 1))) = [V.ref g, .ref s, .int (c + 1)] := rfl
    have b1 : atI [V.ref g, .ref s, .int (c + 1)] 1 = some (.ref s) := rfl
    simp only [x_seq, x_if, x_test, x_B, x_op, x_un, x_varS, x_var0, x_c, x_I0, x_I, x_U, x_bl, x_ret, x_next, x_asg, x_name, x_set0, x_setS, x_drop, x_cb, x_cons, x_nil, x_int1, x_abs1, x_max2, x_gcd, x_gsub, x_sl, x_part, x_nopart, x_int, x_call, x_lst, x_tup, x_not, x_and, x_or, x_andV, x_orV, x_notV, x_ifE, x_eqI, x_neI, x_eqB, x_neB, x_tbm, decide_eq_true_eq, List.append_nil, List.nil_append, List.cons_append, x_ix h1 a2, x_setL h1 ix2, es]
    generalize (upd H P (.lst [.ref g, .ref s, .int (c + 1)])) = H4 at h4 h5 hp4 k4
    have hSl : (0 : Int) < (S.length : Int) := by
      cases S with
      | nil => exact absurd rfl hS0
      | cons a r => simp only [List.length_cons]; omega
    simp only [x_seq, x_if, x_test, x_B, x_op, x_un, x_varS, x_var0, x_c, x_I0, x_I, x_U, x_bl, x_ret, x_next, x_asg, x_name, x_set0, x_setS, x_drop, x_cb, x_cons, x_nil, x_int1, x_abs1, x_max2, x_gcd, x_gsub, x_sl, x_part, x_nopart, x_int, x_call, x_lst, x_tup, x_not, x_and, x_or, x_andV, x_orV, x_notV, x_ifE, x_eqI, x_neI, x_eqB, x_neB, x_tbm, decide_eq_true_eq, List.append_nil, List.nil_append, List.cons_append, x_ix h4 b1, x_lenA h5, List.length_map]
    refine ⟨small_div (by decide), hSl, ?_⟩
    obtain ⟨sd, hsd⟩ := atI_map (S := S) (i := (c.fdiv 4) % (S.length : Int)) (Int.emod_nonneg _ (by omega)) (Int.emod_lt_of_pos _ hSl)
    simp only [x_seq, x_if, x_test, x_B, x_op, x_un, x_varS, x_var0, x_c, x_I0, x_I, x_U, x_bl, x_ret, x_next, x_asg, x_name, x_set0, x_setS, x_drop, x_cb, x_cons, x_nil, x_int1, x_abs1, x_max2, x_gcd, x_gsub, x_sl, x_part, x_nopart, x_int, x_call, x_lst, x_tup, x_not, x_and, x_or, x_andV, x_orV, x_notV, x_ifE, x_eqI, x_neI, x_eqB, x_neB, x_tbm, decide_eq_true_eq, List.append_nil, List.nil_append, List.cons_append, x_ix h5 hsd]
    refine ⟨mul_lit (by decide), mul_lit (by decide), by decide, ?_⟩
    generalize (sd * 48271 + c * 69621 + 12345) = m0
    have hm0 : -(2 ^ 64) < m0 % 2147483647 ∧ m0 % 2147483647 < 2 ^ 64 := by omega
    refine ⟨mul_lit hm0, mul_lit (by decide), by decide, ?_⟩
    generalize (m0 % 2147483647 * (m0 % 2147483647) + c * 40692 + 7) = m1
    have hm1 : -(2 ^ 64) < m1 % 2147483399 ∧ m1 % 2147483399 < 2 ^ 64 := by omega
    refine ⟨mul_lit hm1, by decide, small_div (by decide), hmost, ?_⟩
    exact k _ _ hp4 k4 (Int.emod_nonneg _ (by omega)) (fun _ => Int.emod_lt_of_pos _ hmost) (fun z => absurd z (by omega))

/-- a new pool of the script -/
def spPool (K : PySem.W.Frag) : Sp := fun vs H Q _ => ∃ (a : Addr) (ns : List Int), vs = [.ref a] ∧ SqL K H a (ns.map V.int) ∧ ns.length ≤ 63 ∧ ∀ (P : Addr) (H' : Hp), PoolAt H' P → Same H H' → Q (.ref P) H'
theorem pure_pool {K : PySem.W.Frag} (vs : List V) (H : Hp) (Q : VK) (E : XK) (h : spPool K vs H Q E) : t_pool K { nx := fun _ H' => Q .non H', rt := Q } (start ["script", "greats", "smalls", "cell"] vs) H := by
  obtain ⟨a, ns, rfl, hS, hn, k⟩ := h
  show t_pool K _ [some (.ref a), none, none, none] H
  unfold t_pool
  simp only [x_seq, x_if, x_test, x_B, x_op, x_un, x_varS, x_var0, x_c, x_I0, x_I, x_U, x_bl, x_ret, x_next, x_asg, x_name, x_set0, x_setS, x_drop, x_cb, x_cons, x_nil, x_int1, x_abs1, x_max2, x_gcd, x_gsub, x_sl, x_part, x_nopart, x_int, x_call, x_lst, x_tup, x_not, x_and, x_or, x_andV, x_orV, x_notV, x_ifE, x_eqI, x_neI, x_eqB, x_neB, x_tbm, decide_eq_true_eq, List.append_nil, List.nil_append, List.cons_append]
  refine ⟨by decide, fun g hg => ⟨by decide, fun s hs => ?_⟩⟩
  have ngs : s ≠ g := fun e => by
    subst e
    rw [upd_same] at hs
    cases hs
  have s0 : Same H (upd (upd H g (.lst [])) s (.lst [])) := Same.new' (Same.new hg) hs
  have hs0 : H s = none := (Same.new hg).free hs
  refine ⟨_, rfl, a, rfl, ⟨_, s0.seq hS⟩, for_list (K := K) (a := a) (xs := ns.map V.int) (fun i σ H' => ∃ (G S : List Int) (cl : Option V), σ = [some (.ref a), some (.ref g), some (.ref s), cl] ∧ H' g = some (.lst (G.map V.int)) ∧ H' s = some (.lst (S.map V.int)) ∧ G.length ≤ i ∧ S.length ≤ i ∧ Same H H')
    ⟨[], [], none, rfl, by rw [upd_ne ngs.symm, upd_same]; rfl, by rw [upd_same]; rfl, Nat.le_refl _, Nat.le_refl _, s0⟩ (fun i σ H' _ ⟨_, _, _, _, _, _, _, _, s1⟩ => s1.seq hS) ?_ ?_⟩
  · rintro i y σ H' hi ⟨G, S, cl, rfl, h1, h2, l1, l2, s1⟩
    have hil : i < ns.length := by
      have := (List.getElem?_eq_some_iff.mp hi).1
      rwa [List.length_map] at this
    obtain ⟨z, rfl⟩ : ∃ z, y = V.int z := by
      rw [List.getElem?_map] at hi
      cases e : ns[i]? with
      | none => rw [e] at hi; cases hi
      | some z => rw [e] at hi; exact ⟨z, (Option.some.inj hi).symm⟩
    have ha : ∀ (l : List Int) (b : Int), l.map V.int ++ [V.int b] = (l ++ [b]).map V.int := fun l b => by rw [List.map_append]; rfl
    simp only [x_seq, x_if, x_test, x_B, x_op, x_un, x_varS, x_var0, x_c, x_I0, x_I, x_U, x_bl, x_ret, x_next, x_asg, x_name, x_set0, x_setS, x_drop, x_cb, x_cons, x_nil, x_int1, x_abs1, x_max2, x_gcd, x_gsub, x_sl, x_part, x_nopart, x_int, x_call, x_lst, x_tup, x_not, x_and, x_or, x_andV, x_orV, x_notV, x_ifE, x_eqI, x_neI, x_eqB, x_neB, x_tbm, decide_eq_true_eq, List.append_nil, List.nil_append, List.cons_append]
    refine ⟨⟨by decide, by decide, by decide⟩, ?_⟩
    refine ite2 (fun _ => ?_) (fun _ => ?_)
    · refine ⟨ty_lst h1, ?_⟩
      simp only [x_append h1 (by rw [List.length_map]; exact Nat.lt_of_le_of_lt l1 (Nat.lt_of_lt_of_le (show i < 1000 by omega) (by decide)))]
      refine ⟨G ++ [if z < 0 then -z else z], S, _, rfl, by rw [upd_same, ha], by rw [upd_ne ngs]; exact h2, by rw [List.length_append]; simp; omega, by omega, fun b o e => ?_⟩
      rw [upd_ne (ne_of_none e hg)]
      exact s1 b o e
    · refine ⟨ty_lst h2, ?_⟩
      simp only [x_append h2 (by rw [List.length_map]; exact Nat.lt_of_le_of_lt l2 (Nat.lt_of_lt_of_le (show i < 1000 by omega) (by decide)))]
      refine ⟨G, S ++ [if z < 0 then -z else z], _, rfl, by rw [upd_ne ngs.symm]; exact h1, by rw [upd_same, ha], by omega, by rw [List.length_append]; simp; omega, fun b o e => ?_⟩
      rw [upd_ne (ne_of_none e hs0)]
      exact s1 b o e
  · rintro σ H' ⟨G, S, cl, rfl, h1, h2, l1, l2, s1⟩
    rw [List.length_map] at l1 l2
    -- the pool's own list
    have fin : ∀ (H2 : Hp) (S2 : List Int), H2 g = some (.lst (G.map V.int)) → H2 s = some (.lst (S2.map V.int)) → Same H H2 → S2 ≠ [] → S2.length ≤ 64 → ∀ p, H2 p = none → Q (.ref p) (upd H2 p (.lst [.ref g, .ref s, .int 0])) := by
      intro H2 S2 e1 e2 s2 ne l p hp
      refine k p _ ⟨g, s, G, S2, 0, ⟨upd_same, ?_, ?_, by omega, l, ne⟩⟩ (Same.new' s2 hp)
      · rw [upd_ne (ne_of_none e1 hp)]
        exact e1
      · rw [upd_ne (ne_of_none e2 hp)]
        exact e2
    simp only [x_seq, x_if, x_test, x_B, x_op, x_un, x_varS, x_var0, x_c, x_I0, x_I, x_U, x_bl, x_ret, x_next, x_asg, x_name, x_set0, x_setS, x_drop, x_cb, x_cons, x_nil, x_int1, x_abs1, x_max2, x_gcd, x_gsub, x_sl, x_part, x_nopart, x_int, x_call, x_lst, x_tup, x_not, x_and, x_or, x_andV, x_orV, x_notV, x_ifE, x_eqI, x_neI, x_eqB, x_neB, x_tbm, decide_eq_true_eq, List.append_nil, List.nil_append, List.cons_append, x_lenA h2, x_lenA h1, List.length_map]
    refine ite2 (fun hz => ?_) (fun hz => ?_)
    · refine ⟨ty_lst h2, ?_⟩
      simp only [x_append h2 (by rw [List.length_map]; exact Nat.lt_of_le_of_lt l2 (Nat.lt_of_lt_of_le (show ns.length < 1000 by omega) (by decide)))]
      have hS0 : S = [] := by
        cases S with
        | nil => rfl
        | cons a r => simp only [List.length_cons] at hz; omega
      subst hS0
      refine ⟨(by show 3 ≤ sizeLine; decide), fin _ [(G.length : Int)] (by rw [upd_ne ngs.symm]; exact h1) (by rw [upd_same]; rfl) (fun b o e => ?_) (by simp) (by simp)⟩
      rw [upd_ne (ne_of_none e hs0)]
      exact s1 b o e
    · exact ⟨(by show 3 ≤ sizeLine; decide), fin _ S h1 h2 s1 (fun e => hz (by subst e; rfl)) (by omega)⟩

/-- an int is told as one -/
def spInteger : Sp := fun vs H Q _ => ∃ i : Int, vs = [.int i] ∧ Q (.bl true) H
theorem pure_integer {K : PySem.W.Frag} (vs : List V) (H : Hp) (Q : VK) (E : XK) (h : spInteger vs H Q E) : t_integer K { nx := fun _ H' => Q .non H', rt := Q } (start ["thing"] vs) H := by
  obtain ⟨i, rfl, k⟩ := h
  show t_integer K _ [some (.int i)] H
  unfold t_integer
  simp only [x_seq, x_if, x_test, x_B, x_op, x_un, x_varS, x_var0, x_c, x_I0, x_I, x_U, x_bl, x_ret, x_next, x_asg, x_name, x_set0, x_setS, x_drop, x_cb, x_cons, x_nil, x_int1, x_abs1, x_max2, x_gcd, x_gsub, x_sl, x_part, x_nopart, x_int, x_call, x_lst, x_tup, x_not, x_and, x_or, x_andV, x_orV, x_notV, x_ifE, x_eqI, x_neI, x_eqB, x_neB, x_tbm, decide_eq_true_eq, List.append_nil, List.nil_append, List.cons_append]
  refine ⟨_, _, .type "int", .type "int", true, rfl, .ty _, .base (.int _), kit_ty (by decide +kernel), true, rfl, ?_⟩
  rw [if_pos rfl]
  refine ⟨_, _, .type "int", .type "bool", false, rfl, .ty _, .base (.int _), kit_ty (by decide +kernel), false, rfl, ?_⟩
  exact k

/-! ### the greatest common divisor, by Euclid with turns enough -/
theorem emod_half {x y : Int} (hy : 0 < y) (h : y < x) : 2 * (x % y) < x := by
  have h1 : x % y < y := Int.emod_lt_of_pos _ hy
  have h2 : y * (x / y) + x % y = x := Int.mul_ediv_add_emod x y
  have h3 : 1 ≤ x / y := by
    have := Int.le_ediv_of_mul_le (a := 1) hy (by omega : 1 * y ≤ x)
    exact this
  have h4 : y * 1 ≤ y * (x / y) := Int.mul_le_mul_of_nonneg_left h3 (by omega)
  omega
/-- what holds behind i turns: b0 the second number at the start -/
def Eu (a0 b0 : Int) (i : Nat) (x y : Int) : Prop := 0 ≤ x ∧ 0 ≤ y ∧ Nat.gcd x.natAbs y.natAbs = Nat.gcd a0.natAbs b0.natAbs ∧
  ((i % 2 = 0 ∧ 2 ^ (i / 2) * y ≤ b0) ∨ (i % 2 = 1 ∧ 2 ^ (i / 2) * x ≤ b0 ∧ y < x))
theorem Eu.turn {a0 b0 x y : Int} {i : Nat} (h : Eu a0 b0 i x y) (hy : y ≠ 0) : Eu a0 b0 (i + 1) y (x % y) := by
  obtain ⟨h1, h2, h3, h4⟩ := h
  have hp : 0 < y := by omega
  have n1 := Int.emod_nonneg x hy
  have n2 := Int.emod_lt_of_pos x hp
  refine ⟨h2, n1, ?_, ?_⟩
  · rw [← h3]
    have e : (x % y).natAbs = x.natAbs % y.natAbs := by
      have e1 : (x % y).natAbs = (x.natAbs % y.natAbs) := by
        rw [Int.natAbs_emod_of_nonneg h1]
      exact e1
    rw [e, Nat.gcd_comm y.natAbs, ← Nat.gcd_rec, Nat.gcd_comm]
  · rcases h4 with ⟨p, q⟩ | ⟨p, q, r⟩
    · right
      refine ⟨by omega, ?_, n2⟩
      rw [show (i + 1) / 2 = i / 2 by omega]
      exact q
    · left
      refine ⟨by omega, ?_⟩
      have e : (i + 1) / 2 = i / 2 + 1 := by omega
      rw [e, Int.pow_succ, Int.mul_assoc]
      have hh := emod_half hp r
      exact Int.le_trans (Int.mul_le_mul_of_nonneg_left (by omega) (Int.le_of_lt (Int.pow_pos (by decide)))) q
theorem Eu.end_ {a0 b0 x y : Int} {n B : Nat} (h : Eu a0 b0 n x y) (hn : n = 2 * B + 2) (hb : b0 < 2 ^ B) : y = 0 := by
  obtain ⟨h1, h2, h3, h4⟩ := h
  subst hn
  rcases h4 with ⟨p, q⟩ | ⟨p, q, r⟩
  · rw [show (2 * B + 2) / 2 = B + 1 by omega, Int.pow_succ] at q
    by_cases hy : y = 0
    · exact hy
    · exfalso
      have hp : (0 : Int) < 2 ^ B := Int.pow_pos (by decide)
      have h5 : 2 ^ B * 2 * 1 ≤ 2 ^ B * 2 * y := Int.mul_le_mul_of_nonneg_left (by omega) (by omega)
      omega
  · omega
theorem bits_lt (b : Int) (h : 0 ≤ b) : b < 2 ^ (Builtin.Int.intBits b) := by
  unfold Builtin.Int.intBits
  split
  · rename_i hz
    have : b = 0 := by simpa using hz
    subst this
    decide
  · rename_i hz
    have h1 : b.natAbs < 2 ^ (b.natAbs.log2 + 1) := Nat.lt_log2_self
    have h2 : (b.natAbs : Int) < ((2 ^ (b.natAbs.log2 + 1) : Nat) : Int) := Int.ofNat_lt.mpr h1
    rw [Int.natAbs_of_nonneg h] at h2
    simpa using h2
theorem bits_small {b : Int} (h : b.natAbs < 2 ^ 8000) : Builtin.Int.intBits b ≤ 8000 := by
  unfold Builtin.Int.intBits
  split
  · omega
  · have := PySem.Flt.log2_lt_of (by decide) h
    omega
/-- gcd -/
def spCommon : Sp := fun vs H Q _ => ∃ a b : Int, vs = [.int a, .int b] ∧ b.natAbs < 2 ^ 8000 ∧ Q (.int ((Nat.gcd a.natAbs b.natAbs : Nat) : Int)) H
theorem abs_if (a : Int) : (if a < 0 then -a else a) = (a.natAbs : Int) := by split <;> omega
theorem pure_common {K : PySem.W.Frag} (vs : List V) (H : Hp) (Q : VK) (E : XK) (h : spCommon vs H Q E) : t_common K { nx := fun _ H' => Q .non H', rt := Q } (start ["one", "two", "k", "rest"] vs) H := by
  obtain ⟨a, b, rfl, hb, k⟩ := h
  show t_common K _ [some (.int a), some (.int b), none, none] H
  unfold t_common
  simp only [x_seq, x_if, x_test, x_B, x_op, x_un, x_varS, x_var0, x_c, x_I0, x_I, x_U, x_bl, x_ret, x_next, x_asg, x_name, x_set0, x_setS, x_drop, x_cb, x_cons, x_nil, x_int1, x_abs1, x_max2, x_gcd, x_gsub, x_sl, x_part, x_nopart, x_int, x_call, x_lst, x_tup, x_not, x_and, x_or, x_andV, x_orV, x_notV, x_ifE, x_eqI, x_neI, x_eqB, x_neB, x_tbm, decide_eq_true_eq, List.append_nil, List.nil_append, List.cons_append, abs_if]
  have hB := bits_small (b := (b.natAbs : Int)) (by simpa using hb)
  have hlt := bits_lt (b.natAbs : Int) (by omega)
  refine ⟨_, rfl, _, rfl, _, _, rfl, rfl, mul_lit' (by decide), _, _, rfl, rfl, _, rfl, by omega, by omega, ?_⟩
  rw [show (2 * (Builtin.Int.intBits (b.natAbs : Int) : Int) + 2).toNat = 2 * Builtin.Int.intBits (b.natAbs : Int) + 2 by omega]
  refine for_range (lo := 0) (fun i σ H' => H' = H ∧ ∃ (x y : Int) (u v : Option V), σ = [some (.int x), some (.int y), u, v] ∧ Eu (a.natAbs : Int) (b.natAbs : Int) i x y) ⟨rfl, _, _, none, none, rfl, by omega, by omega, rfl, .inl ⟨rfl, by simp⟩⟩ ?_ ?_
  · rintro i σ H' hi ⟨rfl, x, y, u, v, rfl, hE⟩
    simp only [x_seq, x_if, x_test, x_B, x_op, x_un, x_varS, x_var0, x_c, x_I0, x_I, x_U, x_bl, x_ret, x_next, x_asg, x_name, x_set0, x_setS, x_drop, x_cb, x_cons, x_nil, x_int1, x_abs1, x_max2, x_gcd, x_gsub, x_sl, x_part, x_nopart, x_int, x_call, x_lst, x_tup, x_not, x_and, x_or, x_andV, x_orV, x_notV, x_ifE, x_eqI, x_neI, x_eqB, x_neB, x_tbm, decide_eq_true_eq, List.append_nil, List.nil_append, List.cons_append]
    refine ite2 (fun hy => ?_) (fun hy => ?_)
    · have h3 := hE.2.2.1
      have h1 := hE.1
      rw [hy] at h3
      simp only [Int.natAbs_zero, Nat.gcd_zero_right, Int.natAbs_natCast] at h3
      rw [show x = ((Nat.gcd a.natAbs b.natAbs : Nat) : Int) by rw [← h3]; omega]
      exact k
    · have := hE.2.1
      exact ⟨by omega, trivial, _, _, _, _, rfl, hE.turn hy⟩
  · rintro σ H' ⟨rfl, x, y, u, v, rfl, hE⟩
    have hy := hE.end_ rfl hlt
    have h3 := hE.2.2.1
    have h1 := hE.1
    rw [hy] at h3
    simp only [Int.natAbs_zero, Nat.gcd_zero_right, Int.natAbs_natCast] at h3
    simp only [x_seq, x_if, x_test, x_B, x_op, x_un, x_varS, x_var0, x_c, x_I0, x_I, x_U, x_bl, x_ret, x_next, x_asg, x_name, x_set0, x_setS, x_drop, x_cb, x_cons, x_nil, x_int1, x_abs1, x_max2, x_gcd, x_gsub, x_sl, x_part, x_nopart, x_int, x_call, x_lst, x_tup, x_not, x_and, x_or, x_andV, x_orV, x_notV, x_ifE, x_eqI, x_neI, x_eqB, x_neB, x_tbm, decide_eq_true_eq, List.append_nil, List.nil_append, List.cons_append]
    rw [show x = ((Nat.gcd a.natAbs b.natAbs : Nat) : Int) by rw [← h3]; omega]
    exact k
end SpX

set_option Elab.async false
set_option linter.all false
set_option maxRecDepth 100000
set_option maxHeartbeats 2000000
namespace SpX
open PySem PySem.Spec L2
theorem x_never {D : Ends} {σ : L2.St} {H : Hp} : tNever D σ H = False := rfl
def tRaise0 (Z : Addr) (E : XK) : TS := fun _ _ H => E (.ref Z) none H
/-! ### sizes -/
/-- below two to the n -/
def Bd (n : Nat) (a : Int) : Prop := a.natAbs < 2 ^ n
theorem Bd.mono {m n : Nat} {a : Int} (h : Bd m a) (l : m ≤ n) : Bd n a := Nat.lt_of_lt_of_le h (Nat.pow_le_pow_right (by decide) l)
theorem Bd.mul {m n : Nat} {a b : Int} (h : Bd m a) (h' : Bd n b) : Bd (m + n) (a * b) := by
  unfold Bd at *
  rw [Int.natAbs_mul, Nat.pow_add]
  exact Nat.mul_lt_mul_of_lt_of_le h (Nat.le_of_lt h') (Nat.pos_of_ne_zero (by have := Nat.pow_pos (n := n) (show 0 < 2 by decide); omega))
theorem Bd.add {n : Nat} {a b : Int} (h : Bd n a) (h' : Bd n b) : Bd (n + 1) (a + b) := by
  unfold Bd at *
  rw [Nat.pow_succ]
  have := Int.natAbs_add_le a b
  omega
theorem Bd.neg {n : Nat} {a : Int} (h : Bd n a) : Bd n (-a) := by
  unfold Bd at *
  rwa [Int.natAbs_neg]
theorem Bd.sub {n : Nat} {a b : Int} (h : Bd n a) (h' : Bd n b) : Bd (n + 1) (a - b) := by
  rw [Int.sub_eq_add_neg]
  exact h.add h'.neg
theorem Bd.abs {n : Nat} {a : Int} (h : Bd n a) : Bd n (if a < 0 then -a else a) := by
  split
  · exact h.neg
  · exact h
theorem Bd.of {n : Nat} {a b : Int} (h : Bd n a) (l : b.natAbs ≤ a.natAbs) : Bd n b := Nat.lt_of_le_of_lt l h
theorem Bd.one {n : Nat} (h : 0 < n) : Bd n 1 := Nat.one_lt_two_pow (by omega)
theorem Bd.ok {m n : Nat} {a b : Int} (h : Bd m a) (h' : Bd n b) (h0 : 0 < m) (h1 : 0 < n) (l : m + n ≤ 1000000) : IntMulOk a b := mul_wide h h' h0 h1 l
theorem Bd.ok2 {a b : Int} (h : Bd 2000 a) (h' : Bd 2000 b) : IntMulOk a b := mul_wide h h' (by decide) (by decide) (by decide)
/-! ### promises -/
/-- t / b is in lowest terms -/
structure Low (t b : Int) : Prop where
  pos : 0 < b
  cop : Nat.gcd t.natAbs b.natAbs = 1
theorem Norm.low {t b x y : Int} (h : Norm t b x y) : Low t b := ⟨h.pos, h.cop⟩
theorem Low.int {i : Int} : Low i 1 := ⟨by decide, by simp⟩
/-- a number: an int, or a ratio t / b -/
inductive NumAt (C : Addr) (H : Hp) : V → Int → Int → Prop
  | int (i : Int) : NumAt C H (.int i) i 1
  | rat {p : Addr} {t b : Int} (h : RatAt C H p t b) : NumAt C H (.ref p) t b
/-- the constructor: x / y in lowest terms, or the error at Z -/
def spInit (C Z : Addr) : Sp := fun vs H Q E => ∃ (p dx : Addr) (x y : Int), vs = [.ref p, .int x, .int y] ∧ H p = some (.ins C dx []) ∧ (y ≠ 0 → Nat.gcd x.natAbs y.natAbs < 2 ^ 8000) ∧
  (y = 0 → E (.ref Z) none H) ∧ (y ≠ 0 → ∀ t b, Norm t b x y → Q .non (upd H p (.ins C dx (RF t b))))
/-- what comes back is a new ratio, x / y in lowest terms -/
def Gives (C : Addr) (H : Hp) (x y : Int) (Q : VK) : Prop := ∀ (r : Addr) (H' : Hp) (n d : Int), RatAt C H' r n d → Norm n d x y → Same H H' → Q (.ref r) H'
theorem make_nzG {C Z p dx : Addr} {H : Hp} {Q : VK} {E : XK} {x y : Int} (g : Nat.gcd x.natAbs y.natAbs < 2 ^ 8000) (hy : y ≠ 0) (k : Gives C H x y Q) (np : H p = none) (nd : H dx = none) (ne : dx ≠ p) :
    spInit C Z [.ref p, .int x, .int y] (upd (upd H dx (.own p)) p (.ins C dx [])) (fun v H2 => v = .non ∧ Q (.ref p) H2) E := by
  refine ⟨p, dx, x, y, rfl, upd_same, fun _ => g, fun e => absurd e hy, fun _ t b hn => ⟨rfl, ?_⟩⟩
  refine k p _ t b ⟨dx, upd_same⟩ hn fun c o e => ?_
  rw [upd_ne (ne_of_none e np), upd_ne (ne_of_none e np), upd_ne (ne_of_none e nd)]
  exact e
theorem make_nz {C Z p dx : Addr} {H : Hp} {Q : VK} {E : XK} {x y : Int} (bx : Bd 8000 x) (by' : Bd 8000 y) (hy : y ≠ 0) (k : Gives C H x y Q) (np : H p = none) (nd : H dx = none) (ne : dx ≠ p) :
    spInit C Z [.ref p, .int x, .int y] (upd (upd H dx (.own p)) p (.ins C dx [])) (fun v H2 => v = .non ∧ Q (.ref p) H2) E := by
  exact make_nzG (Nat.lt_of_le_of_lt (Nat.gcd_le_right _ (by omega)) by') hy k np nd ne
theorem make_z {C Z p dx : Addr} {H : Hp} {Q : VK} {E : XK} {x : Int} (bx : Bd 8000 x) (k : ∀ H', Same H H' → E (.ref Z) none H') (np : H p = none) (nd : H dx = none) :
    spInit C Z [.ref p, .int x, .int 0] (upd (upd H dx (.own p)) p (.ins C dx [])) (fun v H2 => v = .non ∧ Q (.ref p) H2) E := by
  refine ⟨p, dx, x, 0, rfl, upd_same, fun h => absurd rfl h, fun _ => k _ fun c o e => ?_, fun h => absurd rfl h⟩
  rw [upd_ne (ne_of_none e np), upd_ne (ne_of_none e nd)]
  exact e
def addN (t b u c : Int) : Int := t * c + u * b
def subN (t b u c : Int) : Int := t * c - u * b
def mulN (t b u c : Int) : Int := t * u
def raddN (t b u c : Int) : Int := t * c + u * b
def rsubN (t b u c : Int) : Int := u * b - t * c
def rmulN (t b u c : Int) : Int := t * u
/-- an operator of a ratio and a number -/
def spBin (C : Addr) (N : Int → Int → Int → Int → Int) : Sp := fun vs H Q _ => ∃ (p : Addr) (v : V) (t b u c : Int), vs = [.ref p, v] ∧ RatAt C H p t b ∧ NumAt C H v u c ∧ Low t b ∧ Low u c ∧ Bd 2000 t ∧ Bd 2000 b ∧ Bd 2000 u ∧ Bd 2000 c ∧
  Gives C H (N t b u c) (b * c) Q
def spRef (C : Addr) (N : Int → Int → Int → Int → Int) : Sp := fun vs H Q _ => ∃ (p : Addr) (t b u : Int), vs = [.ref p, .int u] ∧ RatAt C H p t b ∧ Low t b ∧ Bd 2000 t ∧ Bd 2000 b ∧ Bd 2000 u ∧ Gives C H (N t b u 1) (b * 1) Q
def spUn (C : Addr) (N : Int → Int) : Sp := fun vs H Q _ => ∃ (p : Addr) (t b : Int), vs = [.ref p] ∧ RatAt C H p t b ∧ Low t b ∧ Bd 2000 t ∧ Bd 2000 b ∧ Gives C H (N t) b Q
def spEq (C : Addr) : Sp := fun vs H Q _ => ∃ (p : Addr) (v : V) (t b u c : Int), vs = [.ref p, v] ∧ RatAt C H p t b ∧ NumAt C H v u c ∧ Low t b ∧ Low u c ∧ Q (.bl (decide (t * c = u * b))) H
def spBool (C : Addr) : Sp := fun vs H Q _ => ∃ (p : Addr) (t b : Int), vs = [.ref p] ∧ RatAt C H p t b ∧ Q (.bl (t != 0)) H
def spOver (C Z : Addr) : Sp := fun vs H Q E => ∃ (p : Addr) (v : V) (t b u c : Int), vs = [.ref p, v] ∧ RatAt C H p t b ∧ NumAt C H v u c ∧ Low t b ∧ Low u c ∧ Bd 2000 t ∧ Bd 2000 b ∧ Bd 2000 u ∧ Bd 2000 c ∧
  (u = 0 → ∀ H', Same H H' → E (.ref Z) none H') ∧ (u ≠ 0 → Gives C H (t * c) (b * u) Q)
def spSign (C : Addr) : Sp := fun vs H Q _ => ∃ (p : Addr) (t b : Int), vs = [.ref p] ∧ RatAt C H p t b ∧ Q (.int t.sign) H
def spCompare (C : Addr) : Sp := fun vs H Q _ => ∃ (p q : Addr) (t b u c : Int), vs = [.ref p, .ref q] ∧ RatAt C H p t b ∧ RatAt C H q u c ∧ Low t b ∧ Low u c ∧ Bd 2000 t ∧ Bd 2000 b ∧ Bd 2000 u ∧ Bd 2000 c ∧
  ∀ H', Same H H' → Q (.int (t * c - u * b).sign) H'
theorem Low.nz {t b : Int} (h : Low t b) : b ≠ 0 := by have := h.pos; omega
theorem Low.same {t b u c : Int} (h : Low t b) (h' : Low u c) (e : t * c = u * b) : t = u ∧ b = c := by
  have n : Norm t b u c := ⟨h.pos, e, h.cop⟩
  have m : Norm u c t b := ⟨h'.pos, e.symm, h'.cop⟩
  have h1 := n.le h'.nz
  have h2 := m.le h.nz
  have p1 := h.pos
  have p2 := h'.pos
  have eb : b = c := by omega
  subst eb
  exact ⟨Int.eq_of_mul_eq_mul_right h.nz e, rfl⟩
def t_init (K : PySem.W.Frag) (C Z : Addr) (E : XK) : TS :=
    (tSeq (tIfS (tTest (tOp rEq (tVar 2) (tC (.int 0)))) (tRaise0 Z E) tNext)
    (tSeq (tAsg (tCB rGcd (tCons (tVar 1) (tCons (tVar 2) tNil))) (gName 3))
    (tSeq (tIfS (tTest (tOp (rI0 fun i j => .bl (decide (i < j))) (tVar 2) (tC (.int 0)))) (tAsg (tUn (rU fun i => .int (-i)) (tVar 3)) (gName 3)) tNext)
    (tSeq (sFld K (tVar 0) (tOp (rI CDivF fun i j => .int (i.fdiv j)) (tVar 1) (tVar 3)) "top")
    (sFld K (tVar 0) (tOp (rI CDivF fun i j => .int (i.fdiv j)) (tVar 2) (tVar 3)) "bottom")))))
def t_add (K : PySem.W.Frag) (C Z : Addr) (E : XK) : TS :=
    (tSeq (tIfS (tB (tCB (rIsA C) (tCons (tVar 1) (tCons (tC (.ty "int")) tNil)))) (tRet (tMake C (spInit C Z) [] E0 (tCons (tOp (rI0 fun i j => .int (i + j)) (tUn (rFld C "top") (tVar 0)) (tOp (rI IntMulOk fun i j => .int (i * j)) (tVar 1) (tUn (rFld C "bottom") (tVar 0)))) (tCons (tUn (rFld C "bottom") (tVar 0)) tNil)))) tNext)
    (tSeq (tIfS (tNot (tB (tCB (rIsA C) (tCons (tVar 1) (tCons (tC (.ref C)) tNil))))) tNever tNext)
    (tRet (tMake C (spInit C Z) [] E0 (tCons (tOp (rI0 fun i j => .int (i + j)) (tOp (rI IntMulOk fun i j => .int (i * j)) (tUn (rFld C "top") (tVar 0)) (tUn (rFld C "bottom") (tVar 1))) (tOp (rI IntMulOk fun i j => .int (i * j)) (tUn (rFld C "top") (tVar 1)) (tUn (rFld C "bottom") (tVar 0)))) (tCons (tOp (rI IntMulOk fun i j => .int (i * j)) (tUn (rFld C "bottom") (tVar 0)) (tUn (rFld C "bottom") (tVar 1))) tNil))))))
def t_sub (K : PySem.W.Frag) (C Z : Addr) (E : XK) : TS :=
    (tSeq (tIfS (tB (tCB (rIsA C) (tCons (tVar 1) (tCons (tC (.ty "int")) tNil)))) (tRet (tMake C (spInit C Z) [] E0 (tCons (tOp (rI0 fun i j => .int (i - j)) (tUn (rFld C "top") (tVar 0)) (tOp (rI IntMulOk fun i j => .int (i * j)) (tVar 1) (tUn (rFld C "bottom") (tVar 0)))) (tCons (tUn (rFld C "bottom") (tVar 0)) tNil)))) tNext)
    (tSeq (tIfS (tNot (tB (tCB (rIsA C) (tCons (tVar 1) (tCons (tC (.ref C)) tNil))))) tNever tNext)
    (tRet (tMake C (spInit C Z) [] E0 (tCons (tOp (rI0 fun i j => .int (i - j)) (tOp (rI IntMulOk fun i j => .int (i * j)) (tUn (rFld C "top") (tVar 0)) (tUn (rFld C "bottom") (tVar 1))) (tOp (rI IntMulOk fun i j => .int (i * j)) (tUn (rFld C "top") (tVar 1)) (tUn (rFld C "bottom") (tVar 0)))) (tCons (tOp (rI IntMulOk fun i j => .int (i * j)) (tUn (rFld C "bottom") (tVar 0)) (tUn (rFld C "bottom") (tVar 1))) tNil))))))
def t_mul (K : PySem.W.Frag) (C Z : Addr) (E : XK) : TS :=
    (tSeq (tIfS (tB (tCB (rIsA C) (tCons (tVar 1) (tCons (tC (.ty "int")) tNil)))) (tRet (tMake C (spInit C Z) [] E0 (tCons (tOp (rI IntMulOk fun i j => .int (i * j)) (tUn (rFld C "top") (tVar 0)) (tVar 1)) (tCons (tUn (rFld C "bottom") (tVar 0)) tNil)))) tNext)
    (tSeq (tIfS (tNot (tB (tCB (rIsA C) (tCons (tVar 1) (tCons (tC (.ref C)) tNil))))) tNever tNext)
    (tRet (tMake C (spInit C Z) [] E0 (tCons (tOp (rI IntMulOk fun i j => .int (i * j)) (tUn (rFld C "top") (tVar 0)) (tUn (rFld C "top") (tVar 1))) (tCons (tOp (rI IntMulOk fun i j => .int (i * j)) (tUn (rFld C "bottom") (tVar 0)) (tUn (rFld C "bottom") (tVar 1))) tNil))))))
def t_neg (K : PySem.W.Frag) (C Z : Addr) (E : XK) : TS :=
    (tRet (tMake C (spInit C Z) [] E0 (tCons (tUn (rU fun i => .int (-i)) (tUn (rFld C "top") (tVar 0))) (tCons (tUn (rFld C "bottom") (tVar 0)) tNil))))
def t_radd (K : PySem.W.Frag) (C Z : Addr) (E : XK) : TS :=
    (tRet (tOp (rOwnI C (spBin C addN) E0) (tVar 0) (tVar 1)))
def t_rsub (K : PySem.W.Frag) (C Z : Addr) (E : XK) : TS :=
    (tRet (tOp (rOwnI C (spBin C addN) E0) (tUn (rOwnU C (spUn C (fun t => -t)) E0) (tVar 0)) (tVar 1)))
def t_rmul (K : PySem.W.Frag) (C Z : Addr) (E : XK) : TS :=
    (tRet (tOp (rOwnI C (spBin C mulN) E0) (tVar 0) (tVar 1)))
def t_abs (K : PySem.W.Frag) (C Z : Addr) (E : XK) : TS :=
    (tRet (tMake C (spInit C Z) [] E0 (tCons (tCB rAbs1 (tCons (tUn (rFld C "top") (tVar 0)) tNil)) (tCons (tUn (rFld C "bottom") (tVar 0)) tNil))))
def t_eq (K : PySem.W.Frag) (C Z : Addr) (E : XK) : TS :=
    (tSeq (tIfS (tB (tCB (rIsA C) (tCons (tVar 1) (tCons (tC (.ty "int")) tNil)))) (tRet (tAndV (tOp rEq (tUn (rFld C "bottom") (tVar 0)) (tC (.int 1))) (tOp rEq (tUn (rFld C "top") (tVar 0)) (tVar 1)))) tNext)
    (tRet (tAndV (tCB (rIsA C) (tCons (tVar 1) (tCons (tC (.ref C)) tNil))) (tAndV (tOp rEq (tUn (rFld C "top") (tVar 0)) (tUn (rFld C "top") (tVar 1))) (tOp rEq (tUn (rFld C "bottom") (tVar 0)) (tUn (rFld C "bottom") (tVar 1)))))))
def t_bool (K : PySem.W.Frag) (C Z : Addr) (E : XK) : TS :=
    (tRet (tCB rBool1 (tCons (tUn (rFld C "top") (tVar 0)) tNil)))
def t_over (K : PySem.W.Frag) (C Z : Addr) (E : XK) : TS :=
    (tSeq (tIfS (tB (tCB (rIsA C) (tCons (tVar 1) (tCons (tC (.ty "int")) tNil)))) (tRet (tMake C (spInit C Z) [] E (tCons (tUn (rFld C "top") (tVar 0)) (tCons (tOp (rI IntMulOk fun i j => .int (i * j)) (tUn (rFld C "bottom") (tVar 0)) (tVar 1)) tNil)))) tNext)
    (tRet (tMake C (spInit C Z) [] E (tCons (tOp (rI IntMulOk fun i j => .int (i * j)) (tUn (rFld C "top") (tVar 0)) (tUn (rFld C "bottom") (tVar 1))) (tCons (tOp (rI IntMulOk fun i j => .int (i * j)) (tUn (rFld C "bottom") (tVar 0)) (tUn (rFld C "top") (tVar 1))) tNil)))))
def t_sign (K : PySem.W.Frag) (C Z : Addr) (E : XK) : TS :=
    (tSeq (tIfS (tTest (tOp (rI0 fun i j => .bl (decide (i < j))) (tUn (rFld C "top") (tVar 0)) (tC (.int 0)))) (tRet (tUn (rU fun i => .int (-i)) (tC (.int 1)))) tNext)
    (tRet (tIf (tTest (tOp (rI0 fun i j => .bl (decide (j < i))) (tUn (rFld C "top") (tVar 0)) (tC (.int 0)))) (tC (.int 1)) (tC (.int 0)))))
def t_compare (K : PySem.W.Frag) (C Z : Addr) (E : XK) : TS :=
    (tRet (tMeth C "sign" (spSign C) [] E0 (tOp (rOwn2 C (spBin C subN) E0) (tVar 0) (tVar 1)) tNil))
/-- what a text must say of the class's fields -/
structure FldOk (K : PySem.W.Frag) (C : Addr) : Prop where
  cl : Cls K C
  nt : NoAttr K C "top"
  nb : NoAttr K C "bottom"
section
variable {K : PySem.W.Frag} {C Z : Addr}
theorem pure_init (T : FldOk K C) (vs : List V) (H : Hp) (Q : VK) (E : XK) (h : spInit C Z vs H Q E) : t_init K C Z E { nx := fun _ H' => Q .non H', rt := Q } (start ["self", "top", "bottom", "common"] vs) H := by
  obtain ⟨p, dx, x, y, rfl, hp, gb0, kz, kn⟩ := h
  show t_init K C Z E _ [some (.ref p), some (.int x), some (.int y), none] H
  unfold t_init
  simp only [x_seq, x_if, x_test, x_B, x_op, x_un, x_varS, x_var0, x_c, x_I0, x_I, x_U, x_bl, x_ret, x_next, x_asg, x_name, x_set0, x_setS, x_drop, x_cb, x_cons, x_nil, x_int1, x_abs1, x_max2, x_gcd, x_gsub, x_sl, x_part, x_nopart, x_int, x_call, x_lst, x_tup, x_not, x_and, x_or, x_andV, x_orV, x_notV, x_ifE, x_eqI, x_neI, x_eqB, x_neB, x_tbm, x_never, x_make, x_meth, x_isII, x_isIC, x_bool1, decide_eq_true_eq, Bool.false_eq_true, if_false, if_true, List.append_nil, List.nil_append, List.cons_append]
  refine ite2 (fun hy => kz hy) fun hy => ?_
  have fin : ∀ g : Int, g = (if y < 0 then -((Nat.gcd x.natAbs y.natAbs : Nat) : Int) else ((Nat.gcd x.natAbs y.natAbs : Nat) : Int)) →
      tSeq (sFld K (tVar 0) (tOp (rI CDivF fun i j => .int (i.fdiv j)) (tVar 1) (tVar 3)) "top") (sFld K (tVar 0) (tOp (rI CDivF fun i j => .int (i.fdiv j)) (tVar 2) (tVar 3)) "bottom")
        { nx := fun _ H' => Q .non H', rt := Q } [some (.ref p), some (.int x), some (.int y), some (.int g)] H := by
    intro g hg
    obtain ⟨gn, ga, hN⟩ := norm_mk hy hg
    have gb : g.natAbs < 2 ^ 8000 := by
      rw [ga]
      exact gb0 hy
    rw [x_seq]
    unfold sFld
    simp only [x_seq, x_if, x_test, x_B, x_op, x_un, x_varS, x_var0, x_c, x_I0, x_I, x_U, x_bl, x_ret, x_next, x_asg, x_name, x_set0, x_setS, x_drop, x_cb, x_cons, x_nil, x_int1, x_abs1, x_max2, x_gcd, x_gsub, x_sl, x_part, x_nopart, x_int, x_call, x_lst, x_tup, x_not, x_and, x_or, x_andV, x_orV, x_notV, x_ifE, x_eqI, x_neI, x_eqB, x_neB, x_tbm, x_never, x_make, x_meth, x_isII, x_isIC, x_bool1, decide_eq_true_eq, Bool.false_eq_true, if_false, if_true, List.append_nil, List.nil_append, List.cons_append]
    refine ⟨any_div gn gb, p, C, dx, [], rfl, hp, T.cl, T.nt, by decide, any_div gn gb, p, C, dx, _, rfl, upd_same, T.cl, T.nb, by show 1 < 1000; decide, ?_⟩
    have e := kn hy _ _ hN
    rw [upd_upd]
    exact e
  refine ite2 (fun hlt => ?_) fun hge => ?_
  · exact fin _ (by rw [if_pos hlt])
  · exact fin _ (by rw [if_neg hge])
theorem pure_add (vs : List V) (H : Hp) (Q : VK) (E : XK) (h : spBin C addN vs H Q E) : t_add K C Z E { nx := fun _ H' => Q .non H', rt := Q } (start ["self", "other"] vs) H := by
  obtain ⟨p, v, t, b, u, c, rfl, ⟨dx, hp⟩, hv, l1, l2, bt, bb, bu, bc, k⟩ := h
  have nb := l1.nz
  have nc := l2.nz
  unfold addN at k
  show t_add K C Z E _ [some (.ref p), some v] H
  unfold t_add
  cases hv with
  | int u =>
    simp only [x_seq, x_if, x_test, x_B, x_op, x_un, x_varS, x_var0, x_c, x_I0, x_I, x_U, x_bl, x_ret, x_next, x_asg, x_name, x_set0, x_setS, x_drop, x_cb, x_cons, x_nil, x_int1, x_abs1, x_max2, x_gcd, x_gsub, x_sl, x_part, x_nopart, x_int, x_call, x_lst, x_tup, x_not, x_and, x_or, x_andV, x_orV, x_notV, x_ifE, x_eqI, x_neI, x_eqB, x_neB, x_tbm, x_never, x_make, x_meth, x_isII, x_isIC, x_bool1, decide_eq_true_eq, Bool.false_eq_true, if_false, if_true, List.append_nil, List.nil_append, List.cons_append, x_top hp, x_bot hp, if_true]
    rw [Int.mul_one, Int.mul_one] at k
    exact ⟨bu.ok2 bb, fun q d n1 n2 n3 => make_nz ((bt.mono (by decide)).add (bu.mul bb) |>.mono (by decide)) (bb.mono (by decide)) nb k n1 n2 n3⟩
  | rat hq =>
    obtain ⟨dy, hq⟩ := hq
    simp only [x_seq, x_if, x_test, x_B, x_op, x_un, x_varS, x_var0, x_c, x_I0, x_I, x_U, x_bl, x_ret, x_next, x_asg, x_name, x_set0, x_setS, x_drop, x_cb, x_cons, x_nil, x_int1, x_abs1, x_max2, x_gcd, x_gsub, x_sl, x_part, x_nopart, x_int, x_call, x_lst, x_tup, x_not, x_and, x_or, x_andV, x_orV, x_notV, x_ifE, x_eqI, x_neI, x_eqB, x_neB, x_tbm, x_never, x_make, x_meth, x_isII, x_isIC, x_bool1, decide_eq_true_eq, Bool.false_eq_true, if_false, if_true, List.append_nil, List.nil_append, List.cons_append, x_top hp, x_bot hp, x_top hq, x_bot hq, x_isRI hq, x_isRC hq, if_true, Bool.false_eq_true, if_false, Bool.not_true]
    exact ⟨bt.ok2 bc, bu.ok2 bb, bb.ok2 bc, fun q d n1 n2 n3 => make_nz ((bt.mul bc).add (bu.mul bb) |>.mono (by decide)) ((bb.mul bc).mono (by decide)) (Int.mul_ne_zero nb nc) k n1 n2 n3⟩
theorem pure_sub (vs : List V) (H : Hp) (Q : VK) (E : XK) (h : spBin C subN vs H Q E) : t_sub K C Z E { nx := fun _ H' => Q .non H', rt := Q } (start ["self", "other"] vs) H := by
  obtain ⟨p, v, t, b, u, c, rfl, ⟨dx, hp⟩, hv, l1, l2, bt, bb, bu, bc, k⟩ := h
  have nb := l1.nz
  have nc := l2.nz
  unfold subN at k
  show t_sub K C Z E _ [some (.ref p), some v] H
  unfold t_sub
  cases hv with
  | int u =>
    simp only [x_seq, x_if, x_test, x_B, x_op, x_un, x_varS, x_var0, x_c, x_I0, x_I, x_U, x_bl, x_ret, x_next, x_asg, x_name, x_set0, x_setS, x_drop, x_cb, x_cons, x_nil, x_int1, x_abs1, x_max2, x_gcd, x_gsub, x_sl, x_part, x_nopart, x_int, x_call, x_lst, x_tup, x_not, x_and, x_or, x_andV, x_orV, x_notV, x_ifE, x_eqI, x_neI, x_eqB, x_neB, x_tbm, x_never, x_make, x_meth, x_isII, x_isIC, x_bool1, decide_eq_true_eq, Bool.false_eq_true, if_false, if_true, List.append_nil, List.nil_append, List.cons_append, x_top hp, x_bot hp, if_true]
    rw [Int.mul_one, Int.mul_one] at k
    exact ⟨bu.ok2 bb, fun q d n1 n2 n3 => make_nz ((bt.mono (by decide)).sub (bu.mul bb) |>.mono (by decide)) (bb.mono (by decide)) nb k n1 n2 n3⟩
  | rat hq =>
    obtain ⟨dy, hq⟩ := hq
    simp only [x_seq, x_if, x_test, x_B, x_op, x_un, x_varS, x_var0, x_c, x_I0, x_I, x_U, x_bl, x_ret, x_next, x_asg, x_name, x_set0, x_setS, x_drop, x_cb, x_cons, x_nil, x_int1, x_abs1, x_max2, x_gcd, x_gsub, x_sl, x_part, x_nopart, x_int, x_call, x_lst, x_tup, x_not, x_and, x_or, x_andV, x_orV, x_notV, x_ifE, x_eqI, x_neI, x_eqB, x_neB, x_tbm, x_never, x_make, x_meth, x_isII, x_isIC, x_bool1, decide_eq_true_eq, Bool.false_eq_true, if_false, if_true, List.append_nil, List.nil_append, List.cons_append, x_top hp, x_bot hp, x_top hq, x_bot hq, x_isRI hq, x_isRC hq, if_true, Bool.false_eq_true, if_false, Bool.not_true]
    exact ⟨bt.ok2 bc, bu.ok2 bb, bb.ok2 bc, fun q d n1 n2 n3 => make_nz ((bt.mul bc).sub (bu.mul bb) |>.mono (by decide)) ((bb.mul bc).mono (by decide)) (Int.mul_ne_zero nb nc) k n1 n2 n3⟩
theorem pure_mul (vs : List V) (H : Hp) (Q : VK) (E : XK) (h : spBin C mulN vs H Q E) : t_mul K C Z E { nx := fun _ H' => Q .non H', rt := Q } (start ["self", "other"] vs) H := by
  obtain ⟨p, v, t, b, u, c, rfl, ⟨dx, hp⟩, hv, l1, l2, bt, bb, bu, bc, k⟩ := h
  have nb := l1.nz
  have nc := l2.nz
  unfold mulN at k
  show t_mul K C Z E _ [some (.ref p), some v] H
  unfold t_mul
  cases hv with
  | int u =>
    simp only [x_seq, x_if, x_test, x_B, x_op, x_un, x_varS, x_var0, x_c, x_I0, x_I, x_U, x_bl, x_ret, x_next, x_asg, x_name, x_set0, x_setS, x_drop, x_cb, x_cons, x_nil, x_int1, x_abs1, x_max2, x_gcd, x_gsub, x_sl, x_part, x_nopart, x_int, x_call, x_lst, x_tup, x_not, x_and, x_or, x_andV, x_orV, x_notV, x_ifE, x_eqI, x_neI, x_eqB, x_neB, x_tbm, x_never, x_make, x_meth, x_isII, x_isIC, x_bool1, decide_eq_true_eq, Bool.false_eq_true, if_false, if_true, List.append_nil, List.nil_append, List.cons_append, x_top hp, x_bot hp, if_true]
    rw [Int.mul_one] at k
    exact ⟨bt.ok2 bu, fun q d n1 n2 n3 => make_nz ((bt.mul bu).mono (by decide)) (bb.mono (by decide)) nb k n1 n2 n3⟩
  | rat hq =>
    obtain ⟨dy, hq⟩ := hq
    simp only [x_seq, x_if, x_test, x_B, x_op, x_un, x_varS, x_var0, x_c, x_I0, x_I, x_U, x_bl, x_ret, x_next, x_asg, x_name, x_set0, x_setS, x_drop, x_cb, x_cons, x_nil, x_int1, x_abs1, x_max2, x_gcd, x_gsub, x_sl, x_part, x_nopart, x_int, x_call, x_lst, x_tup, x_not, x_and, x_or, x_andV, x_orV, x_notV, x_ifE, x_eqI, x_neI, x_eqB, x_neB, x_tbm, x_never, x_make, x_meth, x_isII, x_isIC, x_bool1, decide_eq_true_eq, Bool.false_eq_true, if_false, if_true, List.append_nil, List.nil_append, List.cons_append, x_top hp, x_bot hp, x_top hq, x_bot hq, x_isRI hq, x_isRC hq, if_true, Bool.false_eq_true, if_false, Bool.not_true]
    exact ⟨bt.ok2 bu, bb.ok2 bc, fun q d n1 n2 n3 => make_nz ((bt.mul bu).mono (by decide)) ((bb.mul bc).mono (by decide)) (Int.mul_ne_zero nb nc) k n1 n2 n3⟩
theorem pure_over (vs : List V) (H : Hp) (Q : VK) (E : XK) (h : spOver C Z vs H Q E) : t_over K C Z E { nx := fun _ H' => Q .non H', rt := Q } (start ["self", "b"] vs) H := by
  obtain ⟨p, v, t, b, u, c, rfl, ⟨dx, hp⟩, hv, l1, l2, bt, bb, bu, bc, kz, k⟩ := h
  have nb := l1.nz
  have nc := l2.nz
  show t_over K C Z E _ [some (.ref p), some v] H
  unfold t_over
  cases hv with
  | int u =>
    simp only [x_seq, x_if, x_test, x_B, x_op, x_un, x_varS, x_var0, x_c, x_I0, x_I, x_U, x_bl, x_ret, x_next, x_asg, x_name, x_set0, x_setS, x_drop, x_cb, x_cons, x_nil, x_int1, x_abs1, x_max2, x_gcd, x_gsub, x_sl, x_part, x_nopart, x_int, x_call, x_lst, x_tup, x_not, x_and, x_or, x_andV, x_orV, x_notV, x_ifE, x_eqI, x_neI, x_eqB, x_neB, x_tbm, x_never, x_make, x_meth, x_isII, x_isIC, x_bool1, decide_eq_true_eq, Bool.false_eq_true, if_false, if_true, List.append_nil, List.nil_append, List.cons_append, x_top hp, x_bot hp, if_true]
    refine ⟨bb.ok2 bu, fun q d n1 n2 n3 => ?_⟩
    by_cases hu : u = 0
    · subst hu
      rw [Int.mul_zero]
      exact make_z (bt.mono (by decide)) (kz rfl) n1 n2
    · have k := k hu
      rw [Int.mul_one] at k
      exact make_nz (bt.mono (by decide)) ((bb.mul bu).mono (by decide)) (Int.mul_ne_zero nb hu) k n1 n2 n3
  | rat hq =>
    obtain ⟨dy, hq⟩ := hq
    simp only [x_seq, x_if, x_test, x_B, x_op, x_un, x_varS, x_var0, x_c, x_I0, x_I, x_U, x_bl, x_ret, x_next, x_asg, x_name, x_set0, x_setS, x_drop, x_cb, x_cons, x_nil, x_int1, x_abs1, x_max2, x_gcd, x_gsub, x_sl, x_part, x_nopart, x_int, x_call, x_lst, x_tup, x_not, x_and, x_or, x_andV, x_orV, x_notV, x_ifE, x_eqI, x_neI, x_eqB, x_neB, x_tbm, x_never, x_make, x_meth, x_isII, x_isIC, x_bool1, decide_eq_true_eq, Bool.false_eq_true, if_false, if_true, List.append_nil, List.nil_append, List.cons_append, x_top hp, x_bot hp, x_top hq, x_bot hq, x_isRI hq, Bool.false_eq_true, if_false]
    refine ⟨bt.ok2 bc, bb.ok2 bu, fun q d n1 n2 n3 => ?_⟩
    by_cases hu : u = 0
    · subst hu
      rw [Int.mul_zero]
      exact make_z ((bt.mul bc).mono (by decide)) (kz rfl) n1 n2
    · exact make_nz ((bt.mul bc).mono (by decide)) ((bb.mul bu).mono (by decide)) (Int.mul_ne_zero nb hu) (k hu) n1 n2 n3
theorem pure_neg (vs : List V) (H : Hp) (Q : VK) (E : XK) (h : spUn C (fun t => -t) vs H Q E) : t_neg K C Z E { nx := fun _ H' => Q .non H', rt := Q } (start ["self"] vs) H := by
  obtain ⟨p, t, b, rfl, ⟨dx, hp⟩, l1, bt, bb, k⟩ := h
  show t_neg K C Z E _ [some (.ref p)] H
  unfold t_neg
  simp only [x_seq, x_if, x_test, x_B, x_op, x_un, x_varS, x_var0, x_c, x_I0, x_I, x_U, x_bl, x_ret, x_next, x_asg, x_name, x_set0, x_setS, x_drop, x_cb, x_cons, x_nil, x_int1, x_abs1, x_max2, x_gcd, x_gsub, x_sl, x_part, x_nopart, x_int, x_call, x_lst, x_tup, x_not, x_and, x_or, x_andV, x_orV, x_notV, x_ifE, x_eqI, x_neI, x_eqB, x_neB, x_tbm, x_never, x_make, x_meth, x_isII, x_isIC, x_bool1, decide_eq_true_eq, Bool.false_eq_true, if_false, if_true, List.append_nil, List.nil_append, List.cons_append, x_top hp, x_bot hp]
  exact fun q d n1 n2 n3 => make_nz (bt.neg.mono (by decide)) (bb.mono (by decide)) l1.nz k n1 n2 n3
theorem pure_abs (vs : List V) (H : Hp) (Q : VK) (E : XK) (h : spUn C (fun t => if t < 0 then -t else t) vs H Q E) : t_abs K C Z E { nx := fun _ H' => Q .non H', rt := Q } (start ["self"] vs) H := by
  obtain ⟨p, t, b, rfl, ⟨dx, hp⟩, l1, bt, bb, k⟩ := h
  show t_abs K C Z E _ [some (.ref p)] H
  unfold t_abs
  simp only [x_seq, x_if, x_test, x_B, x_op, x_un, x_varS, x_var0, x_c, x_I0, x_I, x_U, x_bl, x_ret, x_next, x_asg, x_name, x_set0, x_setS, x_drop, x_cb, x_cons, x_nil, x_int1, x_abs1, x_max2, x_gcd, x_gsub, x_sl, x_part, x_nopart, x_int, x_call, x_lst, x_tup, x_not, x_and, x_or, x_andV, x_orV, x_notV, x_ifE, x_eqI, x_neI, x_eqB, x_neB, x_tbm, x_never, x_make, x_meth, x_isII, x_isIC, x_bool1, decide_eq_true_eq, Bool.false_eq_true, if_false, if_true, List.append_nil, List.nil_append, List.cons_append, x_top hp, x_bot hp]
  exact fun q d n1 n2 n3 => make_nz (bt.abs.mono (by decide)) (bb.mono (by decide)) l1.nz k n1 n2 n3
theorem pure_radd (vs : List V) (H : Hp) (Q : VK) (E : XK) (h : spRef C raddN vs H Q E) : t_radd K C Z E { nx := fun _ H' => Q .non H', rt := Q } (start ["self", "other"] vs) H := by
  obtain ⟨p, t, b, u, rfl, hr, l1, bt, bb, bu, k⟩ := h
  show t_radd K C Z E _ [some (.ref p), some (.int u)] H
  unfold t_radd
  obtain ⟨dx, hp⟩ := id hr
  simp only [x_seq, x_if, x_test, x_B, x_op, x_un, x_varS, x_var0, x_c, x_I0, x_I, x_U, x_bl, x_ret, x_next, x_asg, x_name, x_set0, x_setS, x_drop, x_cb, x_cons, x_nil, x_int1, x_abs1, x_max2, x_gcd, x_gsub, x_sl, x_part, x_nopart, x_int, x_call, x_lst, x_tup, x_not, x_and, x_or, x_andV, x_orV, x_notV, x_ifE, x_eqI, x_neI, x_eqB, x_neB, x_tbm, x_never, x_make, x_meth, x_isII, x_isIC, x_bool1, decide_eq_true_eq, Bool.false_eq_true, if_false, if_true, List.append_nil, List.nil_append, List.cons_append, x_ownI hp]
  exact ⟨p, _, t, b, u, 1, rfl, hr, .int u, l1, .int, bt, bb, bu, .one (by decide), k⟩
theorem pure_rmul (vs : List V) (H : Hp) (Q : VK) (E : XK) (h : spRef C rmulN vs H Q E) : t_rmul K C Z E { nx := fun _ H' => Q .non H', rt := Q } (start ["self", "other"] vs) H := by
  obtain ⟨p, t, b, u, rfl, hr, l1, bt, bb, bu, k⟩ := h
  show t_rmul K C Z E _ [some (.ref p), some (.int u)] H
  unfold t_rmul
  obtain ⟨dx, hp⟩ := id hr
  simp only [x_seq, x_if, x_test, x_B, x_op, x_un, x_varS, x_var0, x_c, x_I0, x_I, x_U, x_bl, x_ret, x_next, x_asg, x_name, x_set0, x_setS, x_drop, x_cb, x_cons, x_nil, x_int1, x_abs1, x_max2, x_gcd, x_gsub, x_sl, x_part, x_nopart, x_int, x_call, x_lst, x_tup, x_not, x_and, x_or, x_andV, x_orV, x_notV, x_ifE, x_eqI, x_neI, x_eqB, x_neB, x_tbm, x_never, x_make, x_meth, x_isII, x_isIC, x_bool1, decide_eq_true_eq, Bool.false_eq_true, if_false, if_true, List.append_nil, List.nil_append, List.cons_append, x_ownI hp]
  exact ⟨p, _, t, b, u, 1, rfl, hr, .int u, l1, .int, bt, bb, bu, .one (by decide), k⟩
theorem pure_rsub (vs : List V) (H : Hp) (Q : VK) (E : XK) (h : spRef C rsubN vs H Q E) : t_rsub K C Z E { nx := fun _ H' => Q .non H', rt := Q } (start ["self", "other"] vs) H := by
  obtain ⟨p, t, b, u, rfl, hr, l1, bt, bb, bu, k⟩ := h
  show t_rsub K C Z E _ [some (.ref p), some (.int u)] H
  unfold t_rsub
  obtain ⟨dx, hp⟩ := id hr
  simp only [x_seq, x_if, x_test, x_B, x_op, x_un, x_varS, x_var0, x_c, x_I0, x_I, x_U, x_bl, x_ret, x_next, x_asg, x_name, x_set0, x_setS, x_drop, x_cb, x_cons, x_nil, x_int1, x_abs1, x_max2, x_gcd, x_gsub, x_sl, x_part, x_nopart, x_int, x_call, x_lst, x_tup, x_not, x_and, x_or, x_andV, x_orV, x_notV, x_ifE, x_eqI, x_neI, x_eqB, x_neB, x_tbm, x_never, x_make, x_meth, x_isII, x_isIC, x_bool1, decide_eq_true_eq, Bool.false_eq_true, if_false, if_true, List.append_nil, List.nil_append, List.cons_append, x_ownU hp]
  refine ⟨p, t, b, rfl, hr, l1, bt, bb, fun r H1 n d hr1 hn s1 => ?_⟩
  obtain ⟨dy, hq⟩ := id hr1
  simp only [x_seq, x_if, x_test, x_B, x_op, x_un, x_varS, x_var0, x_c, x_I0, x_I, x_U, x_bl, x_ret, x_next, x_asg, x_name, x_set0, x_setS, x_drop, x_cb, x_cons, x_nil, x_int1, x_abs1, x_max2, x_gcd, x_gsub, x_sl, x_part, x_nopart, x_int, x_call, x_lst, x_tup, x_not, x_and, x_or, x_andV, x_orV, x_notV, x_ifE, x_eqI, x_neI, x_eqB, x_neB, x_tbm, x_never, x_make, x_meth, x_isII, x_isIC, x_bool1, decide_eq_true_eq, Bool.false_eq_true, if_false, if_true, List.append_nil, List.nil_append, List.cons_append, x_ownI hq]
  have le := hn.le l1.nz
  refine ⟨r, _, n, d, u, 1, rfl, hr1, .int u, hn.low, .int, bt.neg.of le.1, bb.of le.2, bu, .one (by decide), fun r2 H2 n2 d2 hr2 hn2 s2 => ?_⟩
  refine k r2 H2 n2 d2 hr2 (hn2.cross (Int.mul_ne_zero hn.low.nz (by decide)) ?_) (s1.trans s2)
  have e := hn.eq
  unfold addN rsubN
  rw [Int.mul_one, Int.mul_one, Int.mul_one, Int.mul_one, Int.add_mul, Int.sub_mul, e, Int.mul_assoc, Int.mul_comm d b, ← Int.mul_assoc, Int.neg_mul]
  omega
theorem pure_eq (vs : List V) (H : Hp) (Q : VK) (E : XK) (h : spEq C vs H Q E) : t_eq K C Z E { nx := fun _ H' => Q .non H', rt := Q } (start ["self", "other"] vs) H := by
  obtain ⟨p, v, t, b, u, c, rfl, ⟨dx, hp⟩, hv, l1, l2, k⟩ := h
  have iff : t * c = u * b ↔ t = u ∧ b = c := ⟨l1.same l2, fun ⟨e1, e2⟩ => by rw [e1, e2]⟩
  have ed : decide (t * c = u * b) = decide (t = u ∧ b = c) := decide_eq_decide.mpr iff
  rw [ed] at k
  show t_eq K C Z E _ [some (.ref p), some v] H
  unfold t_eq
  cases hv with
  | int u =>
    simp only [x_seq, x_if, x_test, x_B, x_op, x_un, x_varS, x_var0, x_c, x_I0, x_I, x_U, x_bl, x_ret, x_next, x_asg, x_name, x_set0, x_setS, x_drop, x_cb, x_cons, x_nil, x_int1, x_abs1, x_max2, x_gcd, x_gsub, x_sl, x_part, x_nopart, x_int, x_call, x_lst, x_tup, x_not, x_and, x_or, x_andV, x_orV, x_notV, x_ifE, x_eqI, x_neI, x_eqB, x_neB, x_tbm, x_never, x_make, x_meth, x_isII, x_isIC, x_bool1, decide_eq_true_eq, Bool.false_eq_true, if_false, if_true, List.append_nil, List.nil_append, List.cons_append, x_top hp, x_bot hp, if_true]
    by_cases hb : b = 1
    · rw [if_pos hb]
      simpa [hb] using k
    · rw [if_neg hb]
      simpa [hb] using k
  | rat hq =>
    obtain ⟨dy, hq⟩ := hq
    simp only [x_seq, x_if, x_test, x_B, x_op, x_un, x_varS, x_var0, x_c, x_I0, x_I, x_U, x_bl, x_ret, x_next, x_asg, x_name, x_set0, x_setS, x_drop, x_cb, x_cons, x_nil, x_int1, x_abs1, x_max2, x_gcd, x_gsub, x_sl, x_part, x_nopart, x_int, x_call, x_lst, x_tup, x_not, x_and, x_or, x_andV, x_orV, x_notV, x_ifE, x_eqI, x_neI, x_eqB, x_neB, x_tbm, x_never, x_make, x_meth, x_isII, x_isIC, x_bool1, decide_eq_true_eq, Bool.false_eq_true, if_false, if_true, List.append_nil, List.nil_append, List.cons_append, x_top hp, x_bot hp, x_top hq, x_bot hq, x_isRI hq, x_isRC hq, Bool.false_eq_true, if_false]
    by_cases ht : t = u
    · subst ht
      simpa using k
    · simpa [ht] using k
theorem pure_bool (vs : List V) (H : Hp) (Q : VK) (E : XK) (h : spBool C vs H Q E) : t_bool K C Z E { nx := fun _ H' => Q .non H', rt := Q } (start ["self"] vs) H := by
  obtain ⟨p, t, b, rfl, ⟨dx, hp⟩, k⟩ := h
  show t_bool K C Z E _ [some (.ref p)] H
  unfold t_bool
  simp only [x_seq, x_if, x_test, x_B, x_op, x_un, x_varS, x_var0, x_c, x_I0, x_I, x_U, x_bl, x_ret, x_next, x_asg, x_name, x_set0, x_setS, x_drop, x_cb, x_cons, x_nil, x_int1, x_abs1, x_max2, x_gcd, x_gsub, x_sl, x_part, x_nopart, x_int, x_call, x_lst, x_tup, x_not, x_and, x_or, x_andV, x_orV, x_notV, x_ifE, x_eqI, x_neI, x_eqB, x_neB, x_tbm, x_never, x_make, x_meth, x_isII, x_isIC, x_bool1, decide_eq_true_eq, Bool.false_eq_true, if_false, if_true, List.append_nil, List.nil_append, List.cons_append, x_top hp]
  exact k
theorem pure_sign (vs : List V) (H : Hp) (Q : VK) (E : XK) (h : spSign C vs H Q E) : t_sign K C Z E { nx := fun _ H' => Q .non H', rt := Q } (start ["self"] vs) H := by
  obtain ⟨p, t, b, rfl, ⟨dx, hp⟩, k⟩ := h
  show t_sign K C Z E _ [some (.ref p)] H
  unfold t_sign
  simp only [x_seq, x_if, x_test, x_B, x_op, x_un, x_varS, x_var0, x_c, x_I0, x_I, x_U, x_bl, x_ret, x_next, x_asg, x_name, x_set0, x_setS, x_drop, x_cb, x_cons, x_nil, x_int1, x_abs1, x_max2, x_gcd, x_gsub, x_sl, x_part, x_nopart, x_int, x_call, x_lst, x_tup, x_not, x_and, x_or, x_andV, x_orV, x_notV, x_ifE, x_eqI, x_neI, x_eqB, x_neB, x_tbm, x_never, x_make, x_meth, x_isII, x_isIC, x_bool1, decide_eq_true_eq, Bool.false_eq_true, if_false, if_true, List.append_nil, List.nil_append, List.cons_append, x_top hp]
  refine ite2 (fun hlt => ?_) fun hge => ite2 (fun hgt => ?_) fun hz => ?_
  · rwa [Int.sign_eq_neg_one_of_neg hlt] at k
  · rwa [Int.sign_eq_one_of_pos hgt] at k
  · have : t = 0 := by omega
    subst this
    exact k
theorem look_sign {t b : Int} : List.lookup ("sign" : Str) (RF t b) = none := by
  have h1 : (("sign" : Str) == "top") = false := by decide +kernel
  have h2 : (("sign" : Str) == "bottom") = false := by decide +kernel
  simp only [RF, List.lookup, h1, h2]
theorem look_over {t b : Int} : List.lookup ("over" : Str) (RF t b) = none := by
  have h1 : (("over" : Str) == "top") = false := by decide +kernel
  have h2 : (("over" : Str) == "bottom") = false := by decide +kernel
  simp only [RF, List.lookup, h1, h2]
theorem Norm.sign {n d x y : Int} (h : Norm n d x y) (hy : 0 < y) : n.sign = x.sign := by
  have e := congrArg Int.sign h.eq
  rw [Int.sign_mul, Int.sign_mul, Int.sign_eq_one_of_pos hy, Int.sign_eq_one_of_pos h.pos, Int.mul_one, Int.mul_one] at e
  exact e
theorem pure_compare (vs : List V) (H : Hp) (Q : VK) (E : XK) (h : spCompare C vs H Q E) : t_compare K C Z E { nx := fun _ H' => Q .non H', rt := Q } (start ["first", "second"] vs) H := by
  obtain ⟨p, q, t, b, u, c, rfl, hp, hq, l1, l2, bt, bb, bu, bc, k⟩ := h
  show t_compare K C Z E _ [some (.ref p), some (.ref q)] H
  unfold t_compare
  obtain ⟨dx, hp'⟩ := id hp
  obtain ⟨dy, hq'⟩ := id hq
  simp only [x_seq, x_if, x_test, x_B, x_op, x_un, x_varS, x_var0, x_c, x_I0, x_I, x_U, x_bl, x_ret, x_next, x_asg, x_name, x_set0, x_setS, x_drop, x_cb, x_cons, x_nil, x_int1, x_abs1, x_max2, x_gcd, x_gsub, x_sl, x_part, x_nopart, x_int, x_call, x_lst, x_tup, x_not, x_and, x_or, x_andV, x_orV, x_notV, x_ifE, x_eqI, x_neI, x_eqB, x_neB, x_tbm, x_never, x_make, x_meth, x_isII, x_isIC, x_bool1, decide_eq_true_eq, Bool.false_eq_true, if_false, if_true, List.append_nil, List.nil_append, List.cons_append, x_own2 hp' hq']
  refine ⟨p, _, t, b, u, c, rfl, hp, .rat hq, l1, l2, bt, bb, bu, bc, fun r H1 n d hr hn s1 => ?_⟩
  obtain ⟨dz, hr'⟩ := id hr
  refine ⟨r, dz, _, rfl, hr', look_sign, r, n, d, rfl, hr, ?_⟩
  rw [hn.sign (Int.mul_pos l1.pos l2.pos)]
  exact k H1 s1
end
end SpX

set_option Elab.async false
set_option linter.all false
set_option maxRecDepth 100000
set_option maxHeartbeats 2000000
/-! Draws beside lists that grow: the pool's own lists are none of those in B. -/
namespace SpX
open PySem PySem.Spec L2
def PoolB (B : Addr → Prop) (H : Hp) (P : Addr) : Prop := ∃ g s G S c, PoolIs H P g s G S c ∧ ¬ B g ∧ ¬ B s
def spTakeB : Sp := fun vs H Q _ => ∃ (P : Addr) (most : Int) (B : Addr → Prop), vs = [.ref P, .int most] ∧ PoolB B H P ∧ (∀ b, B b → ∃ o, H b = some o) ∧ most.natAbs < 2 ^ 8000 ∧
  ∀ (r : Int) (H' : Hp), PoolB B H' P → Keep P H H' → 0 ≤ r → (2 ≤ most → r < most) → (most < 2 → r = 0) → Q (.int r) H'
theorem pure_takeB {K : PySem.W.Frag} (vs : List V) (H : Hp) (Q : VK) (E : XK) (h : spTakeB vs H Q E) : t_take K { nx := fun _ H' => Q .non H', rt := Q } (start ["pool", "most", "count", "seed", "mixed", "value", "rest"] vs) H := by
  obtain ⟨P, most, B, rfl, ⟨g, s, G, S, c, hp, bg, bs⟩, hB, hm, k⟩ := h
  have npg := hp.pg
  have nps := hp.ps
  obtain ⟨h1, h2, h3, hG, hS, hS0⟩ := id hp
  show t_take K _ [some (.ref P), some (.int most), none, none, none, none, none] H
  unfold t_take
  have a0 : atI [V.ref g, .ref s, .int c] 0 = some (.ref g) := rfl
  have a1 : atI [V.ref g, .ref s, .int c] 1 = some (.ref s) := rfl
  have a2 : atI [V.ref g, .ref s, .int c] 2 = some (.int c) := rfl
  have ix0 : ixN [V.ref g, .ref s, .int c].length 0 = some 0 := rfl
  have ix2 : ixN [V.ref g, .ref s, .int c].length 2 = some 2 := rfl
  simp only [x_seq, x_if, x_test, x_B, x_op, x_un, x_varS, x_var0, x_c, x_I0, x_I, x_U, x_bl, x_ret, x_next, x_asg, x_name, x_set0, x_setS, x_drop, x_cb, x_cons, x_nil, x_int1, x_abs1, x_max2, x_gcd, x_gsub, x_sl, x_part, x_nopart, x_int, x_call, x_lst, x_tup, x_not, x_and, x_or, x_andV, x_orV, x_notV, x_ifE, x_eqI, x_neI, x_eqB, x_neB, x_tbm, decide_eq_true_eq, List.append_nil, List.nil_append, List.cons_append, x_ix h1 a0, x_lenA h2, List.length_map]
  refine ite2 (fun hlt => k 0 H ⟨g, s, G, S, c, hp, bg, bs⟩ (Keep.refl _ _) (Int.le_refl _) (fun z => absurd hlt (by omega)) fun _ => rfl) fun hge => ?_
  have hmost : (0 : Int) < most := by omega
  refine ite2 (fun hlen => ?_) (fun hlen => ?_)
  · -- an int of the greats
    obtain ⟨z, G', rfl⟩ : ∃ z G', G = z :: G' := by
      cases G with
      | nil => exact absurd hlen (by simp)
      | cons a r => exact ⟨a, r, rfl⟩
    have b0 : atI ((z :: G').map V.int) 0 = some (.int z) := atI_0
    have ec : cutV ((z :: G').map V.int) (some 1) none = G'.map V.int := by
      unfold cutV
      rw [show (1 : Int) = ((1 : Nat) : Int) from rfl, HT.sIx_nat, HT.sIx_none]
      simp only [List.map_cons, List.length_cons, List.length_map, Nat.add_sub_cancel]
      rw [Nat.min_eq_left (by omega)]
      simp only [List.drop_succ_cons, List.drop_zero, Nat.add_sub_cancel]
      rw [← List.length_map (f := V.int) (as := G'), List.take_length]
    simp only [x_seq, x_if, x_test, x_B, x_op, x_un, x_varS, x_var0, x_c, x_I0, x_I, x_U, x_bl, x_ret, x_next, x_asg, x_name, x_set0, x_setS, x_drop, x_cb, x_cons, x_nil, x_int1, x_abs1, x_max2, x_gcd, x_gsub, x_sl, x_part, x_nopart, x_int, x_call, x_lst, x_tup, x_not, x_and, x_or, x_andV, x_orV, x_notV, x_ifE, x_eqI, x_neI, x_eqB, x_neB, x_tbm, decide_eq_true_eq, List.append_nil, List.nil_append, List.cons_append, x_ix h2 b0, x_ix h1 a0, x_slA h2, ec]
    intro q hq
    have hq1 : (upd H q (.lst (G'.map V.int))) q = some (.lst (G'.map V.int)) := upd_same
    simp only [x_listA hq1]
    intro q2 hq2
    have e2 : (upd (upd H q (.lst (G'.map V.int))) q2 (.lst (G'.map V.int))) q2 = some (.lst (G'.map V.int)) := upd_same
    have s2 : Same H (upd (upd H q (.lst (G'.map V.int))) q2 (.lst (G'.map V.int))) := Same.new' (Same.new hq) hq2
    have n2 : ¬ B q2 := fun z => by
      obtain ⟨o, e⟩ := hB q2 z
      have e' := Same.new (o := .lst (G'.map V.int)) hq q2 o e
      rw [hq2] at e'
      cases e'
    generalize (upd (upd H q (.lst (G'.map V.int))) q2 (.lst (G'.map V.int))) = H2 at e2 s2
    -- behind: the rest is stored, the remainder goes back
    have fin : ∀ (r : Addr) (H3 : Hp) (R : List Int), ¬ B r → R.length ≤ 64 → H3 r = some (.lst (R.map V.int)) → Same H H3 →
        Q (.int (z % most)) (upd H3 P (.lst [.ref r, .ref s, .int c])) := by
      intro r H3 R nr hR hr s3
      have hrP : r ≠ P := by
        intro e
        have hP := s3 _ _ h1
        rw [e, hP] at hr
        cases R with
        | nil => cases hr
        | cons a l => cases hr
      refine k _ _ ⟨r, s, R, S, c, ⟨upd_same, ?_, ?_, hR, hS, hS0⟩, nr, bs⟩ (Keep.at (Keep.of s3)) (Int.emod_nonneg _ (by omega)) (fun _ => Int.emod_lt_of_pos _ hmost) (fun z => absurd z (by omega))
      · rw [upd_ne hrP]
        exact hr
      · rw [upd_ne nps]
        exact s3 _ _ h3
    have hP2 := s2 _ _ h1
    refine ⟨pos_div hmost hm, ?_⟩
    refine ite2 (fun hd => ?_) (fun hd => ?_)
    · refine ⟨pos_div hmost hm, by show 1 ≤ sizeLine; decide, fun q3 hq3 => ?_⟩
      have e3 : (upd H2 q3 (.lst [.int (z.fdiv most)])) q3 = some (.lst [.int (z.fdiv most)]) := upd_same
      have s3 : Same H2 (upd H2 q3 (.lst [.int (z.fdiv most)])) := Same.new hq3
      have e4 := s3 _ _ e2
      generalize (upd H2 q3 (.lst [.int (z.fdiv most)])) = H3 at e3 s3 e4
      simp only [x_cat e3 e4 (by rw [List.length_map]; exact sl5 (by simp only [List.length_cons] at hG; simp only [List.length_cons, List.length_nil]; omega))]
      intro q4 hq4
      have e5 : (upd H3 q4 (.lst ([V.int (z.fdiv most)] ++ G'.map V.int))) q4 = some (.lst ((z.fdiv most :: G').map V.int)) := upd_same
      have s5 : Same H (upd H3 q4 (.lst ([V.int (z.fdiv most)] ++ G'.map V.int))) := Same.new' (s2.trans s3) hq4
      have n4 : ¬ B q4 := fun w => by
        obtain ⟨o, e⟩ := hB q4 w
        have e' := (s2.trans s3) q4 o e
        rw [hq4] at e'
        cases e'
      generalize (upd H3 q4 (.lst ([V.int (z.fdiv most)] ++ G'.map V.int))) = H5 at e5 s5
      simp only [x_seq, x_if, x_test, x_B, x_op, x_un, x_varS, x_var0, x_c, x_I0, x_I, x_U, x_bl, x_ret, x_next, x_asg, x_name, x_set0, x_setS, x_drop, x_cb, x_cons, x_nil, x_int1, x_abs1, x_max2, x_gcd, x_gsub, x_sl, x_part, x_nopart, x_int, x_call, x_lst, x_tup, x_not, x_and, x_or, x_andV, x_orV, x_notV, x_ifE, x_eqI, x_neI, x_eqB, x_neB, x_tbm, decide_eq_true_eq, List.append_nil, List.nil_append, List.cons_append, x_setL (s5 _ _ h1) ix0]
      exact ⟨hmost, fin q4 H5 (z.fdiv most :: G') n4 hG e5 s5⟩
    · simp only [x_seq, x_if, x_test, x_B, x_op, x_un, x_varS, x_var0, x_c, x_I0, x_I, x_U, x_bl, x_ret, x_next, x_asg, x_name, x_set0, x_setS, x_drop, x_cb, x_cons, x_nil, x_int1, x_abs1, x_max2, x_gcd, x_gsub, x_sl, x_part, x_nopart, x_int, x_call, x_lst, x_tup, x_not, x_and, x_or, x_andV, x_orV, x_notV, x_ifE, x_eqI, x_neI, x_eqB, x_neB, x_tbm, decide_eq_true_eq, List.append_nil, List.nil_append, List.cons_append, x_setL hP2 ix0]
      exact ⟨hmost, fin q2 H2 G' n2 (by simp only [List.length_cons] at hG; omega) e2 s2⟩
  · -- an int reckoned of the smalls
    have h4 : (upd H P (.lst [.ref g, .ref s, .int (c + 1)])) P = some (.lst [.ref g, .ref s, .int (c + 1)]) := upd_same
    have h5 : (upd H P (.lst [.ref g, .ref s, .int (c + 1)])) s = some (.lst (S.map V.int)) := by
      rw [upd_ne nps]
      exact h3
    have hp4 : PoolB B (upd H P (.lst [.ref g, .ref s, .int (c + 1)])) P := ⟨g, s, G, S, c + 1, ⟨h4, by rw [upd_ne npg]; exact h2, h5, hG, hS, hS0⟩, bg, bs⟩
    have k4 : Keep P H (upd H P (.lst [.ref g, .ref s, .int (c + 1)])) := Keep.at (Keep.refl _ _)
    have es : ([V.ref g, .ref s, .int c].set 2 (.int (c + 1))) = [V.ref g, .ref s, .int (c + 1)] := rfl
    have b1 : atI [V.ref g, .ref s, .int (c + 1)] 1 = some (.ref s) := rfl
    simp only [x_seq, x_if, x_test, x_B, x_op, x_un, x_varS, x_var0, x_c, x_I0, x_I, x_U, x_bl, x_ret, x_next, x_asg, x_name, x_set0, x_setS, x_drop, x_cb, x_cons, x_nil, x_int1, x_abs1, x_max2, x_gcd, x_gsub, x_sl, x_part, x_nopart, x_int, x_call, x_lst, x_tup, x_not, x_and, x_or, x_andV, x_orV, x_notV, x_ifE, x_eqI, x_neI, x_eqB, x_neB, x_tbm, decide_eq_true_eq, List.append_nil, List.nil_append, List.cons_append, x_ix h1 a2, x_setL h1 ix2, es]
    generalize (upd H P (.lst [.ref g, .ref s, .int (c + 1)])) = H4 at h4 h5 hp4 k4
    have hSl : (0 : Int) < (S.length : Int) := by
      cases S with
      | nil => exact absurd rfl hS0
      | cons a r => simp only [List.length_cons]; omega
    simp only [x_seq, x_if, x_test, x_B, x_op, x_un, x_varS, x_var0, x_c, x_I0, x_I, x_U, x_bl, x_ret, x_next, x_asg, x_name, x_set0, x_setS, x_drop, x_cb, x_cons, x_nil, x_int1, x_abs1, x_max2, x_gcd, x_gsub, x_sl, x_part, x_nopart, x_int, x_call, x_lst, x_tup, x_not, x_and, x_or, x_andV, x_orV, x_notV, x_ifE, x_eqI, x_neI, x_eqB, x_neB, x_tbm, decide_eq_true_eq, List.append_nil, List.nil_append, List.cons_append, x_ix h4 b1, x_lenA h5, List.length_map]
    refine ⟨small_div (by decide), hSl, ?_⟩
    obtain ⟨sd, hsd⟩ := atI_map (S := S) (i := (c.fdiv 4) % (S.length : Int)) (Int.emod_nonneg _ (by omega)) (Int.emod_lt_of_pos _ hSl)
    simp only [x_seq, x_if, x_test, x_B, x_op, x_un, x_varS, x_var0, x_c, x_I0, x_I, x_U, x_bl, x_ret, x_next, x_asg, x_name, x_set0, x_setS, x_drop, x_cb, x_cons, x_nil, x_int1, x_abs1, x_max2, x_gcd, x_gsub, x_sl, x_part, x_nopart, x_int, x_call, x_lst, x_tup, x_not, x_and, x_or, x_andV, x_orV, x_notV, x_ifE, x_eqI, x_neI, x_eqB, x_neB, x_tbm, decide_eq_true_eq, List.append_nil, List.nil_append, List.cons_append, x_ix h5 hsd]
    refine ⟨mul_lit (by decide), mul_lit (by decide), by decide, ?_⟩
    generalize (sd * 48271 + c * 69621 + 12345) = m0
    have hm0 : -(2 ^ 64) < m0 % 2147483647 ∧ m0 % 2147483647 < 2 ^ 64 := by omega
    refine ⟨mul_lit hm0, mul_lit (by decide), by decide, ?_⟩
    generalize (m0 % 2147483647 * (m0 % 2147483647) + c * 40692 + 7) = m1
    have hm1 : -(2 ^ 64) < m1 % 2147483399 ∧ m1 % 2147483399 < 2 ^ 64 := by omega
    refine ⟨mul_lit hm1, by decide, small_div (by decide), hmost, ?_⟩
    exact k _ _ hp4 k4 (Int.emod_nonneg _ (by omega)) (fun _ => Int.emod_lt_of_pos _ hmost) (fun z => absurd z (by omega))

/-- a new pool of the script -/
def spPoolB (K : PySem.W.Frag) : Sp := fun vs H Q _ => ∃ (a : Addr) (ns : List Int), vs = [.ref a] ∧ SqL K H a (ns.map V.int) ∧ ns.length ≤ 63 ∧ ∀ (P : Addr) (H' : Hp), PoolB (fun _ => False) H' P → Same H H' → Q (.ref P) H'
theorem pure_poolB {K : PySem.W.Frag} (vs : List V) (H : Hp) (Q : VK) (E : XK) (h : spPoolB K vs H Q E) : t_pool K { nx := fun _ H' => Q .non H', rt := Q } (start ["script", "greats", "smalls", "cell"] vs) H := by
  obtain ⟨a, ns, rfl, hS, hn, k⟩ := h
  show t_pool K _ [some (.ref a), none, none, none] H
  unfold t_pool
  simp only [x_seq, x_if, x_test, x_B, x_op, x_un, x_varS, x_var0, x_c, x_I0, x_I, x_U, x_bl, x_ret, x_next, x_asg, x_name, x_set0, x_setS, x_drop, x_cb, x_cons, x_nil, x_int1, x_abs1, x_max2, x_gcd, x_gsub, x_sl, x_part, x_nopart, x_int, x_call, x_lst, x_tup, x_not, x_and, x_or, x_andV, x_orV, x_notV, x_ifE, x_eqI, x_neI, x_eqB, x_neB, x_tbm, decide_eq_true_eq, List.append_nil, List.nil_append, List.cons_append]
  refine ⟨by decide, fun g hg => ⟨by decide, fun s hs => ?_⟩⟩
  have ngs : s ≠ g := fun e => by
    subst e
    rw [upd_same] at hs
    cases hs
  have s0 : Same H (upd (upd H g (.lst [])) s (.lst [])) := Same.new' (Same.new hg) hs
  have hs0 : H s = none := (Same.new hg).free hs
  refine ⟨_, rfl, a, rfl, ⟨_, s0.seq hS⟩, for_list (K := K) (a := a) (xs := ns.map V.int) (fun i σ H' => ∃ (G S : List Int) (cl : Option V), σ = [some (.ref a), some (.ref g), some (.ref s), cl] ∧ H' g = some (.lst (G.map V.int)) ∧ H' s = some (.lst (S.map V.int)) ∧ G.length ≤ i ∧ S.length ≤ i ∧ Same H H')
    ⟨[], [], none, rfl, by rw [upd_ne ngs.symm, upd_same]; rfl, by rw [upd_same]; rfl, Nat.le_refl _, Nat.le_refl _, s0⟩ (fun i σ H' _ ⟨_, _, _, _, _, _, _, _, s1⟩ => s1.seq hS) ?_ ?_⟩
  · rintro i y σ H' hi ⟨G, S, cl, rfl, h1, h2, l1, l2, s1⟩
    have hil : i < ns.length := by
      have := (List.getElem?_eq_some_iff.mp hi).1
      rwa [List.length_map] at this
    obtain ⟨z, rfl⟩ : ∃ z, y = V.int z := by
      rw [List.getElem?_map] at hi
      cases e : ns[i]? with
      | none => rw [e] at hi; cases hi
      | some z => rw [e] at hi; exact ⟨z, (Option.some.inj hi).symm⟩
    have ha : ∀ (l : List Int) (b : Int), l.map V.int ++ [V.int b] = (l ++ [b]).map V.int := fun l b => by rw [List.map_append]; rfl
    simp only [x_seq, x_if, x_test, x_B, x_op, x_un, x_varS, x_var0, x_c, x_I0, x_I, x_U, x_bl, x_ret, x_next, x_asg, x_name, x_set0, x_setS, x_drop, x_cb, x_cons, x_nil, x_int1, x_abs1, x_max2, x_gcd, x_gsub, x_sl, x_part, x_nopart, x_int, x_call, x_lst, x_tup, x_not, x_and, x_or, x_andV, x_orV, x_notV, x_ifE, x_eqI, x_neI, x_eqB, x_neB, x_tbm, decide_eq_true_eq, List.append_nil, List.nil_append, List.cons_append]
    refine ⟨⟨by decide, by decide, by decide⟩, ?_⟩
    refine ite2 (fun _ => ?_) (fun _ => ?_)
    · refine ⟨ty_lst h1, ?_⟩
      simp only [x_append h1 (by rw [List.length_map]; exact Nat.lt_of_le_of_lt l1 (Nat.lt_of_lt_of_le (show i < 1000 by omega) (by decide)))]
      refine ⟨G ++ [if z < 0 then -z else z], S, _, rfl, by rw [upd_same, ha], by rw [upd_ne ngs]; exact h2, by rw [List.length_append]; simp; omega, by omega, fun b o e => ?_⟩
      rw [upd_ne (ne_of_none e hg)]
      exact s1 b o e
    · refine ⟨ty_lst h2, ?_⟩
      simp only [x_append h2 (by rw [List.length_map]; exact Nat.lt_of_le_of_lt l2 (Nat.lt_of_lt_of_le (show i < 1000 by omega) (by decide)))]
      refine ⟨G, S ++ [if z < 0 then -z else z], _, rfl, by rw [upd_ne ngs.symm]; exact h1, by rw [upd_same, ha], by omega, by rw [List.length_append]; simp; omega, fun b o e => ?_⟩
      rw [upd_ne (ne_of_none e hs0)]
      exact s1 b o e
  · rintro σ H' ⟨G, S, cl, rfl, h1, h2, l1, l2, s1⟩
    rw [List.length_map] at l1 l2
    -- the pool's own list
    have fin : ∀ (H2 : Hp) (S2 : List Int), H2 g = some (.lst (G.map V.int)) → H2 s = some (.lst (S2.map V.int)) → Same H H2 → S2 ≠ [] → S2.length ≤ 64 → ∀ p, H2 p = none → Q (.ref p) (upd H2 p (.lst [.ref g, .ref s, .int 0])) := by
      intro H2 S2 e1 e2 s2 ne l p hp
      refine k p _ ⟨g, s, G, S2, 0, ⟨upd_same, ?_, ?_, by omega, l, ne⟩, fun z => z.elim, fun z => z.elim⟩ (Same.new' s2 hp)
      · rw [upd_ne (ne_of_none e1 hp)]
        exact e1
      · rw [upd_ne (ne_of_none e2 hp)]
        exact e2
    simp only [x_seq, x_if, x_test, x_B, x_op, x_un, x_varS, x_var0, x_c, x_I0, x_I, x_U, x_bl, x_ret, x_next, x_asg, x_name, x_set0, x_setS, x_drop, x_cb, x_cons, x_nil, x_int1, x_abs1, x_max2, x_gcd, x_gsub, x_sl, x_part, x_nopart, x_int, x_call, x_lst, x_tup, x_not, x_and, x_or, x_andV, x_orV, x_notV, x_ifE, x_eqI, x_neI, x_eqB, x_neB, x_tbm, decide_eq_true_eq, List.append_nil, List.nil_append, List.cons_append, x_lenA h2, x_lenA h1, List.length_map]
    refine ite2 (fun hz => ?_) (fun hz => ?_)
    · refine ⟨ty_lst h2, ?_⟩
      simp only [x_append h2 (by rw [List.length_map]; exact Nat.lt_of_le_of_lt l2 (Nat.lt_of_lt_of_le (show ns.length < 1000 by omega) (by decide)))]
      have hS0 : S = [] := by
        cases S with
        | nil => rfl
        | cons a r => simp only [List.length_cons] at hz; omega
      subst hS0
      refine ⟨(by show 3 ≤ sizeLine; decide), fin _ [(G.length : Int)] (by rw [upd_ne ngs.symm]; exact h1) (by rw [upd_same]; rfl) (fun b o e => ?_) (by simp) (by simp)⟩
      rw [upd_ne (ne_of_none e hs0)]
      exact s1 b o e
    · exact ⟨(by show 3 ≤ sizeLine; decide), fin _ S h1 h2 s1 (fun e => hz (by subst e; rfl)) (by omega)⟩

theorem PoolB.same {B : Addr → Prop} {H H' : Hp} {P : Addr} (h : PoolB B H P) (k : Same H H') : PoolB B H' P := by
  obtain ⟨g, s, G, S, c, ⟨h1, h2, h3, h4, h5, h6⟩, h7⟩ := h
  exact ⟨g, s, G, S, c, ⟨k _ _ h1, k _ _ h2, k _ _ h3, h4, h5, h6⟩, h7⟩
/-- one more list that is none of the pool's -/
theorem PoolB.more {B : Addr → Prop} {H : Hp} {P F : Addr} {o : HO} (h : PoolB B H P) (n : H F = none) : PoolB (fun b => B b ∨ b = F) (upd H F o) P := by
  obtain ⟨g, s, G, S, c, ⟨h1, h2, h3, h4, h5, h6⟩, bg, bs⟩ := h
  have k : Same H (upd H F o) := Same.new n
  refine ⟨g, s, G, S, c, ⟨k _ _ h1, k _ _ h2, k _ _ h3, h4, h5, h6⟩, ?_, ?_⟩
  · rintro (z | rfl)
    · exact bg z
    · rw [h2] at n
      cases n
  · rintro (z | rfl)
    · exact bs z
    · rw [h3] at n
      cases n
theorem PoolB.less {B B' : Addr → Prop} {H : Hp} {P : Addr} (h : PoolB B H P) (l : ∀ b, B' b → B b) : PoolB B' H P := by
  obtain ⟨g, s, G, S, c, h1, bg, bs⟩ := h
  exact ⟨g, s, G, S, c, h1, fun z => bg (l _ z), fun z => bs (l _ z)⟩
/-- a list of B is written -/
theorem PoolB.put {B : Addr → Prop} {H : Hp} {P F : Addr} {o : HO} (h : PoolB B H P) (b : B F) (n : F ≠ P) : PoolB B (upd H F o) P := by
  obtain ⟨g, s, G, S, c, ⟨h1, h2, h3, h4, h5, h6⟩, bg, bs⟩ := h
  refine ⟨g, s, G, S, c, ⟨?_, ?_, ?_, h4, h5, h6⟩, bg, bs⟩
  · rw [upd_ne (Ne.symm n)]; exact h1
  · have q : g ≠ F := fun e => bg (by rw [e]; exact b)
    rw [upd_ne q]
    exact h2
  · have q : s ≠ F := fun e => bs (by rw [e]; exact b)
    rw [upd_ne q]
    exact h3
theorem PoolB.there {B : Addr → Prop} {H : Hp} {P : Addr} (h : PoolB B H P) : ∃ xs, H P = some (.lst xs) := by
  obtain ⟨g, s, G, S, c, h1, _⟩ := h
  exact ⟨_, h1.p⟩
theorem tup_off {B : Addr → Prop} {H : Hp} {P o : Addr} {ys : List V} (h : PoolB B H P) (t : H o = some (.tup ys)) : o ≠ P := by
  obtain ⟨xs, e⟩ := h.there
  exact lst_tup e t
end SpX

set_option Elab.async false
set_option linter.all false
set_option maxRecDepth 100000
set_option maxHeartbeats 2000000
/-! Loops, draws, tuples: what the laws have in common. -/
namespace SpX
open PySem PySem.Spec L2
/-! ### loops -/
theorem for_rngC {j : Int} {g : TG} {tb : TS} {D : Ends} {σ : L2.St} {H : Hp} (hj : 0 ≤ j ∧ j < 1000) (Pv : Nat → L2.St → Hp → Prop) (h0 : Pv 0 σ H)
    (hs : ∀ (i : Nat) σ H, (i : Int) < j → Pv i σ H → g (.int i) σ H fun σ2 H2 => tb { D with nx := Pv (i + 1), ct := Pv (i + 1), bk := D.nx } σ2 H2) (hd : ∀ σ H, Pv j.toNat σ H → D.nx σ H) : tFor (iRng1 (tCons (tC (.int j)) tNil)) g tb D σ H := by
  refine ⟨j, rfl, by omega, by omega, for_range (lo := 0) (n := j.toNat) Pv h0 (fun i σ H hi h => ?_) hd⟩
  have := hs i σ H (by omega) h
  rwa [Int.zero_add]
theorem for_lstV {K : PySem.W.Frag} {te : TE} {a : Addr} {xs : List V} {g : TG} {tb : TS} {D : Ends} {σ : L2.St} {H : Hp} (he : ∀ Q : VK, te σ H Q = Q (.ref a) H) (Pv : Nat → L2.St → Hp → Prop) (h0 : Pv 0 σ H) (hl : ∀ i σ H, i ≤ xs.length → Pv i σ H → H a = some (.lst xs))
    (hs : ∀ i x σ H, xs[i]? = some x → Pv i σ H → g x σ H fun σ2 H2 => tb { D with nx := Pv (i + 1), ct := Pv (i + 1), bk := D.nx } σ2 H2) (hd : ∀ σ H, Pv xs.length σ H → D.nx σ H) : tFor (iList K te) g tb D σ H := by
  show te σ H _
  rw [he]
  exact ⟨a, rfl, ⟨xs, SqL.at (hl 0 σ H (Nat.zero_le _) h0)⟩, for_list Pv h0 (fun i σ H h p => SqL.at (hl i σ H h p)) hs hd⟩
/-! ### draws -/
theorem Bd.nat {n : Nat} {a : Int} {b : Nat} (h0 : 0 ≤ a) (h : a < b) (l : b ≤ 2 ^ n) : Bd n a := by
  unfold Bd
  omega
theorem p60 : (10 : Int) ^ (60 : Int).toNat = ((10 ^ 60 : Nat) : Int) := by decide +kernel
theorem p58 : (10 : Int) ^ (58 : Int).toNat = ((10 ^ 58 : Nat) : Int) := by decide +kernel
theorem p30 : (10 : Int) ^ (30 : Int).toNat = ((10 ^ 30 : Nat) : Int) := by decide +kernel
theorem p9 : (10 : Int) ^ (9 : Int).toNat = 1000000000 := by decide +kernel
theorem le60 : 10 ^ 60 ≤ 2 ^ 200 := by decide +kernel
theorem le58 : 10 ^ 58 ≤ 2 ^ 200 := by decide +kernel
theorem le30 : 10 ^ 30 ≤ 2 ^ 100 := by decide +kernel
theorem big_of {n : Nat} {a : Int} (h : Bd n a) (l : n ≤ 8000) : a.natAbs < 2 ^ 8000 := h.mono l
theorem PoolAt.toB {H : Hp} {P : Addr} (h : PoolAt H P) : PoolB (fun _ => False) H P := by
  obtain ⟨g, s, G, S, c, h⟩ := h
  exact ⟨g, s, G, S, c, h, fun z => z, fun z => z⟩
theorem PoolB.at {B : Addr → Prop} {H : Hp} {P : Addr} (h : PoolB B H P) : PoolAt H P := by
  obtain ⟨g, s, G, S, c, h, _⟩ := h
  exact ⟨g, s, G, S, c, h⟩
/-- what a draw asks, when the bound is small -/
theorem take_of {P : Addr} {most : Int} {H : Hp} {Q : VK} {E : XK} {n : Nat} (hp : PoolAt H P) (h2 : 2 ≤ most) (hb : Bd n most) (l : n ≤ 8000) (k : ∀ (r : Int) (H' : Hp), PoolAt H' P → Keep P H H' → 0 ≤ r → r < most → Q (.int r) H') : spTakeB [.ref P, .int most] H Q E :=
  ⟨P, most, fun _ => False, rfl, hp.toB, fun _ z => z.elim, big_of hb l, fun r H' a b c d _ => k r H' a.at b c (d h2)⟩
/-- .. beside lists that grow -/
theorem takeB_of {P : Addr} {B : Addr → Prop} {most : Int} {H : Hp} {Q : VK} {E : XK} {n : Nat} (hp : PoolB B H P) (hB : ∀ b, B b → ∃ o, H b = some o) (h2 : 2 ≤ most) (hb : Bd n most) (l : n ≤ 8000) (k : ∀ (r : Int) (H' : Hp), PoolB B H' P → Keep P H H' → 0 ≤ r → r < most → Q (.int r) H') : spTakeB [.ref P, .int most] H Q E :=
  ⟨P, most, B, rfl, hp, hB, big_of hb l, fun r H' a b c d _ => k r H' a b c (d h2)⟩
theorem Bd.lit {n : Nat} (a : Int) (h0 : 0 ≤ a) (h : a < 2000000000) (l : 31 ≤ n) : Bd n a := by
  refine Bd.mono (m := 31) ?_ l
  unfold Bd
  omega
theorem Bd.big {a : Int} {n b : Nat} (e : a = (b : Int)) (l : b < 2 ^ n) : Bd n a := by
  unfold Bd
  rw [e, Int.natAbs_natCast]
  exact l
theorem b60 : Bd 200 ((10 ^ 60 : Nat) : Int) := .big rfl (by decide +kernel)
theorem b30 : Bd 100 ((10 ^ 30 : Nat) : Int) := .big rfl (by decide +kernel)
theorem Bd.lt {n : Nat} {a b : Int} (h : Bd n b) (h0 : 0 ≤ a) (h1 : a < b) : Bd n a := Bd.of h (by omega)
theorem pow_ok {i j : Int} (h0 : 0 ≤ j) (h1 : j ≤ 1000) (h2 : i.natAbs < 2 ^ 64) : CPow i j := ⟨h0, by omega, h2⟩
/-- two ints in a tuple -/
def TupAt (H : Hp) (o : Addr) (x y : Int) : Prop := H o = some (.tup [.int x, .int y])
theorem TupAt.keep {H H' : Hp} {P o : Addr} {x y : Int} (h : TupAt H o x y) (hp : PoolAt H P) (k : Keep P H H') : TupAt H' o x y := by
  obtain ⟨g, s, G, S, c, hp⟩ := hp
  exact k _ _ (lst_tup hp.p h) h
theorem TupAt.same {H H' : Hp} {o : Addr} {x y : Int} (h : TupAt H o x y) (k : Same H H') : TupAt H' o x y := k _ _ h
theorem PoolAt.same {H H' : Hp} {P : Addr} (h : PoolAt H P) (k : Same H H') : PoolAt H' P := by
  obtain ⟨g, s, G, S, c, h1, h2, h3, h4, h5, h6⟩ := h
  exact ⟨g, s, G, S, c, k _ _ h1, k _ _ h2, k _ _ h3, h4, h5, h6⟩
theorem max1 {r : Int} : (if r > 1 then r else 1) = if 1 < r then r else 1 := rfl
theorem max1_pos {r : Int} : 0 < (if r > 1 then r else 1) := by split <;> omega
theorem max1_bd {n : Nat} {r : Int} (h : Bd n r) (hn : 0 < n) : Bd n (if r > 1 then r else 1) := by
  split
  · exact h
  · exact .one hn
theorem Bd.emod {n : Nat} {a b : Int} (h : Bd n b) (h0 : 0 < b) : Bd n (a % b) := h.lt (Int.emod_nonneg _ (by omega)) (Int.emod_lt_of_pos _ h0)
theorem at0 {v w : V} : atI [v, w] 0 = some v := rfl
theorem at1 {v w : V} : atI [v, w] 1 = some w := rfl
theorem abs_if2 (a : Int) : (if a < 0 then -a else a) = (a.natAbs : Int) := abs_if a
theorem fdiv_le {x y : Int} (hy : y ≠ 0) : (x.fdiv y).natAbs ≤ x.natAbs := Int.natAbs_fdiv_le_natAbs x y
theorem int_of {i : Int} {H : Hp} {Q : VK} {E : XK} (k : Q (.bl true) H) : spInteger [.int i] H Q E := ⟨i, rfl, k⟩
/-- the law: a list of at most 63 ints is handed in, True comes out -/
def spLaw (K : PySem.W.Frag) : Sp := fun vs H Q _ => ∃ (a : Addr) (ns : List Int), vs = [.ref a] ∧ SqL K H a (ns.map V.int) ∧ ns.length ≤ 63 ∧ ∀ H', Q (.bl true) H'
end SpX

set_option Elab.async false
set_option linter.all false
set_option maxRecDepth 100000
set_option maxHeartbeats 2000000
/-! Law k01: draws of numbers, and how they are written. -/
namespace SpX
open PySem PySem.Spec NumText L2
open TL (tl)
theorem for_rngV {te : TE} {j : Int} {g : TG} {tb : TS} {D : Ends} {σ : L2.St} {H : Hp} (he : ∀ Q : VK, te σ H Q = Q (.int j) H) (hj : 0 ≤ j ∧ j < 1000000) (Pv : Nat → L2.St → Hp → Prop) (h0 : Pv 0 σ H)
    (hs : ∀ (i : Nat) σ H, (i : Int) < j → Pv i σ H → g (.int i) σ H fun σ2 H2 => tb { D with nx := Pv (i + 1), ct := Pv (i + 1), bk := D.nx } σ2 H2) (hd : ∀ σ H, Pv j.toNat σ H → D.nx σ H) : tFor (iRng1 (tCons te tNil)) g tb D σ H := by
  show te σ H _
  rw [he]
  refine ⟨j, rfl, by omega, by omega, for_range (lo := 0) (n := j.toNat) Pv h0 (fun i σ H hi h => ?_) hd⟩
  have := hs i σ H (by omega) h
  rwa [Int.zero_add]
def spPower : Sp := fun vs H Q _ => ∃ many : Int, vs = [.int 10, .int many] ∧ 0 ≤ many ∧ many < 1000 ∧ Q (.int ((10 : Int) ^ many.toNat)) H
theorem pow10_bd (n : Nat) : Bd (4 * n + 1) ((10 : Int) ^ n) := by
  unfold Bd
  rw [Int.natAbs_pow]
  have h : (10 : Nat) ^ n ≤ (2 ^ 4) ^ n := Nat.pow_le_pow_left (by decide) n
  rw [← Nat.pow_mul] at h
  have h2 : 2 ^ (4 * n) < 2 ^ (4 * n + 1) := Nat.pow_lt_pow_right (by decide) (by omega)
  exact Nat.lt_of_le_of_lt h h2
def t_npower (P : Program) (K : PySem.W.Frag) (mg : Str → Option Value) (C Z D BN : Addr) (E : XK) : TS :=
    (tSeq (tAsg (tC (.int 1)) (gName 2))
    (tSeq (tFor (iRng1 (tCons (tVar 1) tNil)) (gName 3) ((tAsg (tOp (rI IntMulOk fun i j => .int (i * j)) (tVar 2) (tVar 0)) (gName 2))))
    (tRet (tVar 2))))
theorem pure_npower {P : Program} {K : PySem.W.Frag} {mg : Str → Option Value} {C Z D BN : Addr} (vs : List V) (H : Hp) (Q : VK) (E : XK) (h : spPower vs H Q E) : t_npower P K mg C Z D BN E { nx := fun _ H' => Q .non H', rt := Q } (start ["base", "many", "found", "k"] vs) H := by
  obtain ⟨many, rfl, h0, h1, k⟩ := h
  show t_npower P K mg C Z D BN E _ [some (.int 10), some (.int many), none, none] H
  unfold t_npower
  simp only [x_seq, x_if, x_test, x_B, x_op, x_un, x_varS, x_var0, x_c, x_I0, x_I, x_U, x_bl, x_ret, x_next, x_eqS, x_neS, x_m0, x_m1, x_isStr, x_SM, x_addT, x_slS, x_lenS, x_strI, x_mulS, x_startT, x_findT, x_preT, x_lstT, x_ascT, x_digT, x_jn, x_js0, x_js1, x_isS, x_fmt, x_fmtS, x_divW, x_truK, x_truS, x_raiseT, x_asg, x_name, x_set0, x_setS, x_drop, x_cb, x_cons, x_nil, x_int1, x_abs1, x_max2, x_gcd, x_gsub, x_sl, x_part, x_nopart, x_int, x_call, x_lst, x_tup, x_not, x_and, x_or, x_andV, x_orV, x_notV, x_ifE, x_eqI, x_neI, x_eqB, x_neB, x_tbm, x_never, x_make, x_meth, x_isII, x_isIC, x_bool1, decide_eq_true_eq, Bool.false_eq_true, if_false, if_true, List.append_nil, List.nil_append, List.cons_append]
  refine for_rngV (j := many) (fun Q => by simp only [x_seq, x_if, x_test, x_B, x_op, x_un, x_varS, x_var0, x_c, x_I0, x_I, x_U, x_bl, x_ret, x_next, x_eqS, x_neS, x_m0, x_m1, x_isStr, x_SM, x_addT, x_slS, x_lenS, x_strI, x_mulS, x_startT, x_findT, x_preT, x_lstT, x_ascT, x_digT, x_jn, x_js0, x_js1, x_isS, x_fmt, x_fmtS, x_divW, x_truK, x_truS, x_raiseT, x_asg, x_name, x_set0, x_setS, x_drop, x_cb, x_cons, x_nil, x_int1, x_abs1, x_max2, x_gcd, x_gsub, x_sl, x_part, x_nopart, x_int, x_call, x_lst, x_tup, x_not, x_and, x_or, x_andV, x_orV, x_notV, x_ifE, x_eqI, x_neI, x_eqB, x_neB, x_tbm, x_never, x_make, x_meth, x_isII, x_isIC, x_bool1, decide_eq_true_eq, Bool.false_eq_true, if_false, if_true, List.append_nil, List.nil_append, List.cons_append]) (by omega) (fun i σ H' => H' = H ∧ ∃ w : Option V, σ = [some (.int 10), some (.int many), some (.int ((10 : Int) ^ i)), w]) ⟨rfl, _, rfl⟩ ?_ ?_
  · rintro i σ H' hi ⟨rfl, w, rfl⟩
    simp only [x_seq, x_if, x_test, x_B, x_op, x_un, x_varS, x_var0, x_c, x_I0, x_I, x_U, x_bl, x_ret, x_next, x_eqS, x_neS, x_m0, x_m1, x_isStr, x_SM, x_addT, x_slS, x_lenS, x_strI, x_mulS, x_startT, x_findT, x_preT, x_lstT, x_ascT, x_digT, x_jn, x_js0, x_js1, x_isS, x_fmt, x_fmtS, x_divW, x_truK, x_truS, x_raiseT, x_asg, x_name, x_set0, x_setS, x_drop, x_cb, x_cons, x_nil, x_int1, x_abs1, x_max2, x_gcd, x_gsub, x_sl, x_part, x_nopart, x_int, x_call, x_lst, x_tup, x_not, x_and, x_or, x_andV, x_orV, x_notV, x_ifE, x_eqI, x_neI, x_eqB, x_neB, x_tbm, x_never, x_make, x_meth, x_isII, x_isIC, x_bool1, decide_eq_true_eq, Bool.false_eq_true, if_false, if_true, List.append_nil, List.nil_append, List.cons_append]
    refine ⟨(pow10_bd i).ok (n := 31) (.lit _ (by decide) (by decide) (by decide)) (by omega) (by decide) (by omega), trivial, some (.int i), ?_⟩
    rw [Int.pow_succ]
  · rintro σ H' ⟨rfl, w, rfl⟩
    simp only [x_seq, x_if, x_test, x_B, x_op, x_un, x_varS, x_var0, x_c, x_I0, x_I, x_U, x_bl, x_ret, x_next, x_eqS, x_neS, x_m0, x_m1, x_isStr, x_SM, x_addT, x_slS, x_lenS, x_strI, x_mulS, x_startT, x_findT, x_preT, x_lstT, x_ascT, x_digT, x_jn, x_js0, x_js1, x_isS, x_fmt, x_fmtS, x_divW, x_truK, x_truS, x_raiseT, x_asg, x_name, x_set0, x_setS, x_drop, x_cb, x_cons, x_nil, x_int1, x_abs1, x_max2, x_gcd, x_gsub, x_sl, x_part, x_nopart, x_int, x_call, x_lst, x_tup, x_not, x_and, x_or, x_andV, x_orV, x_notV, x_ifE, x_eqI, x_neI, x_eqB, x_neB, x_tbm, x_never, x_make, x_meth, x_isII, x_isIC, x_bool1, decide_eq_true_eq, Bool.false_eq_true, if_false, if_true, List.append_nil, List.nil_append, List.cons_append]
    exact k
def spSize60 : Sp := fun vs H Q _ => ∃ P : Addr, vs = [.ref P] ∧ PoolAt H P ∧ ∀ (r : Int) (H' : Hp), PoolAt H' P → Keep P H H' → 0 ≤ r → r.natAbs < 10 ^ 60 → Q (.int r) H'
theorem power_of {many : Int} {H : Hp} {Q : VK} {E : XK} (h0 : 0 ≤ many) (h1 : many < 1000) (k : Q (.int ((10 : Int) ^ many.toNat)) H) : spPower [.int 10, .int many] H Q E := ⟨many, rfl, h0, h1, k⟩
theorem lt60 {r : Int} (h0 : 0 ≤ r) (h : r < ((10 ^ 60 : Nat) : Int)) : r.natAbs < 10 ^ 60 := by
  generalize 10 ^ 60 = L at *
  omega
theorem small60 {r : Int} (h0 : 0 ≤ r) (h : r < 1000000) : r.natAbs < 10 ^ 60 := by
  have : (1000000 : Nat) ≤ 10 ^ 60 := by decide +kernel
  generalize 10 ^ 60 = L at *
  omega
theorem nine60 {d : Int} {n : Nat} (h0 : 0 ≤ d) (h : d < 10) (hn : n < 60) : (d * (10 : Int) ^ n).natAbs < 10 ^ 60 := by
  have e : (10 : Int) ^ n = ((10 ^ n : Nat) : Int) := by simp
  have h2 : 10 ^ n ≤ 10 ^ 59 := Nat.pow_le_pow_right (by decide) (by omega)
  have h3 : 10 * 10 ^ 59 = 10 ^ 60 := by decide +kernel
  have hp : 0 < 10 ^ n := Nat.pow_pos (by decide)
  rw [e, Int.natAbs_mul, Int.natAbs_natCast]
  have h4 : d.natAbs * 10 ^ n ≤ 9 * 10 ^ 59 := Nat.mul_le_mul (by omega) h2
  have h5 : 0 < 10 ^ 59 := Nat.pow_pos (by decide)
  generalize 10 ^ 60 = L at *
  generalize 10 ^ 59 = M at *
  omega
def t_nsize (P : Program) (K : PySem.W.Frag) (mg : Str → Option Value) (C Z D BN : Addr) (E : XK) : TS :=
    (tSeq (tAsg (tCall spTakeB [] E0 (tCons (tVar 0) (tCons (tC (.int 5)) tNil))) (gName 1))
    (tSeq (tIfS (tTest (tOp rEq (tVar 1) (tC (.int 0)))) (tRet (tCall spTakeB [] E0 (tCons (tVar 0) (tCons (tC (.int 10)) tNil)))) tNext)
    (tSeq (tIfS (tTest (tOp rEq (tVar 1) (tC (.int 1)))) (tRet (tCall spTakeB [] E0 (tCons (tVar 0) (tCons (tC (.int 1000)) tNil)))) tNext)
    (tSeq (tIfS (tTest (tOp rEq (tVar 1) (tC (.int 2)))) (tRet (tCall spTakeB [] E0 (tCons (tVar 0) (tCons (tOp (rI CPow fun i j => .int (i ^ j.toNat)) (tC (.int 10)) (tC (.int 60))) tNil)))) tNext)
    (tSeq (tIfS (tTest (tOp rEq (tVar 1) (tC (.int 3)))) (tRet (tOp (rI IntMulOk fun i j => .int (i * j)) (tOp (rI0 fun i j => .int (i + j)) (tC (.int 1)) (tCall spTakeB [] E0 (tCons (tVar 0) (tCons (tC (.int 9)) tNil)))) (tCall spPower [] E0 (tCons (tC (.int 10)) (tCons (tCall spTakeB [] E0 (tCons (tVar 0) (tCons (tC (.int 60)) tNil))) tNil))))) tNext)
    (tSeq (tAsg (tC (.int 0)) (gName 2))
    (tSeq (tFor (iRng1 (tCons (tC (.int 7)) tNil)) (gName 3) ((tAsg (tOp (rI0 fun i j => .int (i + j)) (tOp (rI IntMulOk fun i j => .int (i * j)) (tVar 2) (tOp (rI CPow fun i j => .int (i ^ j.toNat)) (tC (.int 10)) (tC (.int 9)))) (tCall spTakeB [] E0 (tCons (tVar 0) (tCons (tOp (rI CPow fun i j => .int (i ^ j.toNat)) (tC (.int 10)) (tC (.int 9))) tNil)))) (gName 2))))
    (tRet (tOp (rI (fun _ j => 0 < j) fun i j => .int (i % j)) (tCB rInt1 (tCons (tVar 2) tNil)) (tOp (rI CPow fun i j => .int (i ^ j.toNat)) (tC (.int 10)) (tC (.int 60))))))))))))
theorem pure_nsize {P0 : Program} {K : PySem.W.Frag} {mg : Str → Option Value} {C Z D BN : Addr} (vs : List V) (H : Hp) (Q : VK) (E : XK) (h : spSize60 vs H Q E) : t_nsize P0 K mg C Z D BN E { nx := fun _ H' => Q .non H', rt := Q } (start ["pool", "kind", "number", "k"] vs) H := by
  obtain ⟨P, rfl, hp, k⟩ := h
  show t_nsize P0 K mg C Z D BN E _ [some (.ref P), none, none, none] H
  unfold t_nsize
  simp only [x_seq, x_if, x_test, x_B, x_op, x_un, x_varS, x_var0, x_c, x_I0, x_I, x_U, x_bl, x_ret, x_next, x_eqS, x_neS, x_m0, x_m1, x_isStr, x_SM, x_addT, x_slS, x_lenS, x_strI, x_mulS, x_startT, x_findT, x_preT, x_lstT, x_ascT, x_digT, x_jn, x_js0, x_js1, x_isS, x_fmt, x_fmtS, x_divW, x_truK, x_truS, x_raiseT, x_asg, x_name, x_set0, x_setS, x_drop, x_cb, x_cons, x_nil, x_int1, x_abs1, x_max2, x_gcd, x_gsub, x_sl, x_part, x_nopart, x_int, x_call, x_lst, x_tup, x_not, x_and, x_or, x_andV, x_orV, x_notV, x_ifE, x_eqI, x_neI, x_eqB, x_neB, x_tbm, x_never, x_make, x_meth, x_isII, x_isIC, x_bool1, decide_eq_true_eq, Bool.false_eq_true, if_false, if_true, List.append_nil, List.nil_append, List.cons_append]
  refine take_of (n := 31) hp (by decide) (.lit _ (by decide) (by decide) (by decide)) (by decide) fun kind H1 hp1 k1 _ _ => ?_
  simp only [x_seq, x_if, x_test, x_B, x_op, x_un, x_varS, x_var0, x_c, x_I0, x_I, x_U, x_bl, x_ret, x_next, x_eqS, x_neS, x_m0, x_m1, x_isStr, x_SM, x_addT, x_slS, x_lenS, x_strI, x_mulS, x_startT, x_findT, x_preT, x_lstT, x_ascT, x_digT, x_jn, x_js0, x_js1, x_isS, x_fmt, x_fmtS, x_divW, x_truK, x_truS, x_raiseT, x_asg, x_name, x_set0, x_setS, x_drop, x_cb, x_cons, x_nil, x_int1, x_abs1, x_max2, x_gcd, x_gsub, x_sl, x_part, x_nopart, x_int, x_call, x_lst, x_tup, x_not, x_and, x_or, x_andV, x_orV, x_notV, x_ifE, x_eqI, x_neI, x_eqB, x_neB, x_tbm, x_never, x_make, x_meth, x_isII, x_isIC, x_bool1, decide_eq_true_eq, Bool.false_eq_true, if_false, if_true, List.append_nil, List.nil_append, List.cons_append, p60, p9]
  refine ite2 (fun _ => ?_) fun _ => ?_
  · exact take_of (n := 31) hp1 (by decide) (.lit _ (by decide) (by decide) (by decide)) (by decide) fun r H2 hp2 k2 r0 r1 => k r H2 hp2 (k1.trans k2) r0 (small60 r0 (by omega))
  refine ite2 (fun _ => ?_) fun _ => ?_
  · exact take_of (n := 31) hp1 (by decide) (.lit _ (by decide) (by decide) (by decide)) (by decide) fun r H2 hp2 k2 r0 r1 => k r H2 hp2 (k1.trans k2) r0 (small60 r0 (by omega))
  refine ite2 (fun _ => ?_) fun _ => ?_
  · exact ⟨pow_ok (by decide) (by decide) (by decide), take_of hp1 (by decide +kernel) b60 (by decide) fun r H2 hp2 k2 r0 r1 => k r H2 hp2 (k1.trans k2) r0 (lt60 r0 r1)⟩
  refine ite2 (fun _ => ?_) fun _ => ?_
  · refine take_of (n := 31) hp1 (by decide) (.lit _ (by decide) (by decide) (by decide)) (by decide) fun d H2 hp2 k2 d0 d1 => ?_
    simp only [x_seq, x_if, x_test, x_B, x_op, x_un, x_varS, x_var0, x_c, x_I0, x_I, x_U, x_bl, x_ret, x_next, x_eqS, x_neS, x_m0, x_m1, x_isStr, x_SM, x_addT, x_slS, x_lenS, x_strI, x_mulS, x_startT, x_findT, x_preT, x_lstT, x_ascT, x_digT, x_jn, x_js0, x_js1, x_isS, x_fmt, x_fmtS, x_divW, x_truK, x_truS, x_raiseT, x_asg, x_name, x_set0, x_setS, x_drop, x_cb, x_cons, x_nil, x_int1, x_abs1, x_max2, x_gcd, x_gsub, x_sl, x_part, x_nopart, x_int, x_call, x_lst, x_tup, x_not, x_and, x_or, x_andV, x_orV, x_notV, x_ifE, x_eqI, x_neI, x_eqB, x_neB, x_tbm, x_never, x_make, x_meth, x_isII, x_isIC, x_bool1, decide_eq_true_eq, Bool.false_eq_true, if_false, if_true, List.append_nil, List.nil_append, List.cons_append]
    refine take_of (n := 31) hp2 (by decide) (.lit _ (by decide) (by decide) (by decide)) (by decide) fun r H3 hp3 k3 r0 r1 => ?_
    refine power_of r0 (by omega) ?_
    try simp only [x_seq, x_if, x_test, x_B, x_op, x_un, x_varS, x_var0, x_c, x_I0, x_I, x_U, x_bl, x_ret, x_next, x_eqS, x_neS, x_m0, x_m1, x_isStr, x_SM, x_addT, x_slS, x_lenS, x_strI, x_mulS, x_startT, x_findT, x_preT, x_lstT, x_ascT, x_digT, x_jn, x_js0, x_js1, x_isS, x_fmt, x_fmtS, x_divW, x_truK, x_truS, x_raiseT, x_asg, x_name, x_set0, x_setS, x_drop, x_cb, x_cons, x_nil, x_int1, x_abs1, x_max2, x_gcd, x_gsub, x_sl, x_part, x_nopart, x_int, x_call, x_lst, x_tup, x_not, x_and, x_or, x_andV, x_orV, x_notV, x_ifE, x_eqI, x_neI, x_eqB, x_neB, x_tbm, x_never, x_make, x_meth, x_isII, x_isIC, x_bool1, decide_eq_true_eq, Bool.false_eq_true, if_false, if_true, List.append_nil, List.nil_append, List.cons_append]
    refine ⟨Bd.ok (m := 31) (.lit _ (by omega) (by omega) (by decide)) (pow10_bd _) (by decide) (by omega) (by omega), ?_⟩
    exact k _ H3 hp3 ((k1.trans k2).trans k3) (Int.mul_nonneg (by omega) (Int.pow_nonneg (by decide))) (nine60 (by omega) (by omega) (by omega))
  · refine for_rngC (by decide) (fun i σ H' => PoolAt H' P ∧ Keep P H H' ∧ ∃ (kd kk : Option V) (z : Int), σ = [some (.ref P), kd, some (.int z), kk] ∧ 0 ≤ z) ⟨hp1, k1, _, _, 0, rfl, by decide⟩ ?_ ?_
    · rintro i σ H' hi ⟨hp2, k2, kd, kk, z, rfl, hz⟩
      simp only [x_seq, x_if, x_test, x_B, x_op, x_un, x_varS, x_var0, x_c, x_I0, x_I, x_U, x_bl, x_ret, x_next, x_eqS, x_neS, x_m0, x_m1, x_isStr, x_SM, x_addT, x_slS, x_lenS, x_strI, x_mulS, x_startT, x_findT, x_preT, x_lstT, x_ascT, x_digT, x_jn, x_js0, x_js1, x_isS, x_fmt, x_fmtS, x_divW, x_truK, x_truS, x_raiseT, x_asg, x_name, x_set0, x_setS, x_drop, x_cb, x_cons, x_nil, x_int1, x_abs1, x_max2, x_gcd, x_gsub, x_sl, x_part, x_nopart, x_int, x_call, x_lst, x_tup, x_not, x_and, x_or, x_andV, x_orV, x_notV, x_ifE, x_eqI, x_neI, x_eqB, x_neB, x_tbm, x_never, x_make, x_meth, x_isII, x_isIC, x_bool1, decide_eq_true_eq, Bool.false_eq_true, if_false, if_true, List.append_nil, List.nil_append, List.cons_append, p9]
      refine ⟨pow_ok (by decide) (by decide) (by decide), mul_lit (by decide), pow_ok (by decide) (by decide) (by decide), ?_⟩
      refine take_of (n := 31) hp2 (by decide) (.lit _ (by decide) (by decide) (by decide)) (by decide) fun r H2 hp3 k3 r0 r1 => ?_
      simp only [x_seq, x_if, x_test, x_B, x_op, x_un, x_varS, x_var0, x_c, x_I0, x_I, x_U, x_bl, x_ret, x_next, x_eqS, x_neS, x_m0, x_m1, x_isStr, x_SM, x_addT, x_slS, x_lenS, x_strI, x_mulS, x_startT, x_findT, x_preT, x_lstT, x_ascT, x_digT, x_jn, x_js0, x_js1, x_isS, x_fmt, x_fmtS, x_divW, x_truK, x_truS, x_raiseT, x_asg, x_name, x_set0, x_setS, x_drop, x_cb, x_cons, x_nil, x_int1, x_abs1, x_max2, x_gcd, x_gsub, x_sl, x_part, x_nopart, x_int, x_call, x_lst, x_tup, x_not, x_and, x_or, x_andV, x_orV, x_notV, x_ifE, x_eqI, x_neI, x_eqB, x_neB, x_tbm, x_never, x_make, x_meth, x_isII, x_isIC, x_bool1, decide_eq_true_eq, Bool.false_eq_true, if_false, if_true, List.append_nil, List.nil_append, List.cons_append]
      exact ⟨hp3, k2.trans k3, kd, _, _, rfl, by omega⟩
    · rintro σ H' ⟨hp2, k2, kd, kk, z, rfl, hz⟩
      simp only [x_seq, x_if, x_test, x_B, x_op, x_un, x_varS, x_var0, x_c, x_I0, x_I, x_U, x_bl, x_ret, x_next, x_eqS, x_neS, x_m0, x_m1, x_isStr, x_SM, x_addT, x_slS, x_lenS, x_strI, x_mulS, x_startT, x_findT, x_preT, x_lstT, x_ascT, x_digT, x_jn, x_js0, x_js1, x_isS, x_fmt, x_fmtS, x_divW, x_truK, x_truS, x_raiseT, x_asg, x_name, x_set0, x_setS, x_drop, x_cb, x_cons, x_nil, x_int1, x_abs1, x_max2, x_gcd, x_gsub, x_sl, x_part, x_nopart, x_int, x_call, x_lst, x_tup, x_not, x_and, x_or, x_andV, x_orV, x_notV, x_ifE, x_eqI, x_neI, x_eqB, x_neB, x_tbm, x_never, x_make, x_meth, x_isII, x_isIC, x_bool1, decide_eq_true_eq, Bool.false_eq_true, if_false, if_true, List.append_nil, List.nil_append, List.cons_append, p60]
      exact ⟨pow_ok (by decide) (by decide) (by decide), by decide +kernel, k _ _ hp2 k2 (Int.emod_nonneg _ (by decide +kernel)) (lt60 (Int.emod_nonneg _ (by decide +kernel)) (Int.emod_lt_of_pos _ (by decide +kernel)))⟩
/-- t / b in its lowest terms, at o -/
def spLowest : Sp := fun vs H Q _ => ∃ x y : Int, vs = [.int x, .int y] ∧ 0 < y ∧ Bd 8000 x ∧ Bd 8000 y ∧ ∀ (o : Addr) (H' : Hp) (t b : Int), TupAt H' o t b → Norm t b x y → Same H H' → Q (.ref o) H'
def t_nlowest (P : Program) (K : PySem.W.Frag) (mg : Str → Option Value) (C Z D BN : Addr) (E : XK) : TS :=
    (tSeq (tAsg (tCall spCommon [] E0 (tCons (tVar 0) (tCons (tVar 1) tNil))) (gName 2))
    (tRet (tTup (tCons (tOp (rI CDivF fun i j => .int (i.fdiv j)) (tVar 0) (tVar 2)) (tCons (tOp (rI CDivF fun i j => .int (i.fdiv j)) (tVar 1) (tVar 2)) tNil)))))
theorem pure_nlowest {P0 : Program} {K : PySem.W.Frag} {mg : Str → Option Value} {C Z D BN : Addr} (vs : List V) (H : Hp) (Q : VK) (E : XK) (h : spLowest vs H Q E) : t_nlowest P0 K mg C Z D BN E { nx := fun _ H' => Q .non H', rt := Q } (start ["above", "below", "common"] vs) H := by
  obtain ⟨x, y, rfl, hy, bx, by', k⟩ := h
  show t_nlowest P0 K mg C Z D BN E _ [some (.int x), some (.int y), none] H
  unfold t_nlowest
  simp only [x_seq, x_if, x_test, x_B, x_op, x_un, x_varS, x_var0, x_c, x_I0, x_I, x_U, x_bl, x_ret, x_next, x_eqS, x_neS, x_m0, x_m1, x_isStr, x_SM, x_addT, x_slS, x_lenS, x_strI, x_mulS, x_startT, x_findT, x_preT, x_lstT, x_ascT, x_digT, x_jn, x_js0, x_js1, x_isS, x_fmt, x_fmtS, x_divW, x_truK, x_truS, x_raiseT, x_asg, x_name, x_set0, x_setS, x_drop, x_cb, x_cons, x_nil, x_int1, x_abs1, x_max2, x_gcd, x_gsub, x_sl, x_part, x_nopart, x_int, x_call, x_lst, x_tup, x_not, x_and, x_or, x_andV, x_orV, x_notV, x_ifE, x_eqI, x_neI, x_eqB, x_neB, x_tbm, x_never, x_make, x_meth, x_isII, x_isIC, x_bool1, decide_eq_true_eq, Bool.false_eq_true, if_false, if_true, List.append_nil, List.nil_append, List.cons_append]
  refine ⟨x, y, rfl, by', ?_⟩
  simp only [x_seq, x_if, x_test, x_B, x_op, x_un, x_varS, x_var0, x_c, x_I0, x_I, x_U, x_bl, x_ret, x_next, x_eqS, x_neS, x_m0, x_m1, x_isStr, x_SM, x_addT, x_slS, x_lenS, x_strI, x_mulS, x_startT, x_findT, x_preT, x_lstT, x_ascT, x_digT, x_jn, x_js0, x_js1, x_isS, x_fmt, x_fmtS, x_divW, x_truK, x_truS, x_raiseT, x_asg, x_name, x_set0, x_setS, x_drop, x_cb, x_cons, x_nil, x_int1, x_abs1, x_max2, x_gcd, x_gsub, x_sl, x_part, x_nopart, x_int, x_call, x_lst, x_tup, x_not, x_and, x_or, x_andV, x_orV, x_notV, x_ifE, x_eqI, x_neI, x_eqB, x_neB, x_tbm, x_never, x_make, x_meth, x_isII, x_isIC, x_bool1, decide_eq_true_eq, Bool.false_eq_true, if_false, if_true, List.append_nil, List.nil_append, List.cons_append]
  have hg : ((Nat.gcd x.natAbs y.natAbs : Nat) : Int) = (if y < 0 then -((Nat.gcd x.natAbs y.natAbs : Nat) : Int) else ((Nat.gcd x.natAbs y.natAbs : Nat) : Int)) := by rw [if_neg (by omega)]
  obtain ⟨g0, ga, hn⟩ := norm_mk (x := x) (y := y) (by omega) hg
  have gd : CDivF x ((Nat.gcd x.natAbs y.natAbs : Nat) : Int) := any_div g0 (Bd.of by' (by rw [ga]; exact Nat.le_of_dvd (by omega) (Nat.gcd_dvd_right _ _)))
  exact ⟨gd, gd, by show 2 ≤ sizeLine; decide, fun p hp => k p _ _ _ upd_same hn (Same.new hp)⟩
/-- a number: its parts below 10 ^ 60, in lowest terms -/
structure Num60 (x y : Int) : Prop where
  t : x.natAbs < 10 ^ 60
  b : y.natAbs < 10 ^ 60
  pos : 0 < y
  cop : Nat.gcd x.natAbs y.natAbs = 1
theorem bd60 {a : Int} (h : a.natAbs < 10 ^ 60) : Bd 200 a := Nat.lt_of_lt_of_le h le60
def spDrawn : Sp := fun vs H Q _ => ∃ P : Addr, vs = [.ref P] ∧ PoolAt H P ∧ ∀ (o : Addr) (H' : Hp) (t b : Int), TupAt H' o t b → Num60 t b → PoolAt H' P → Keep P H H' → Q (.ref o) H'
theorem size60_of {P : Addr} {H : Hp} {Q : VK} {E : XK} (hp : PoolAt H P) (k : ∀ (r : Int) (H' : Hp), PoolAt H' P → Keep P H H' → 0 ≤ r → r.natAbs < 10 ^ 60 → Q (.int r) H') : spSize60 [.ref P] H Q E := ⟨P, rfl, hp, k⟩
def t_ndrawn (P : Program) (K : PySem.W.Frag) (mg : Str → Option Value) (C Z D BN : Addr) (E : XK) : TS :=
    (tSeq (tAsg (tCall spSize60 [] E0 (tCons (tVar 0) tNil)) (gName 1))
    (tSeq (tAsg (tC (.int 1)) (gName 2))
    (tSeq (tIfS (tTest (tOp rEq (tCall spTakeB [] E0 (tCons (tVar 0) (tCons (tC (.int 2)) tNil))) (tC (.int 1)))) (tAsg (tCB rMax2 (tCons (tC (.int 1)) (tCons (tCall spSize60 [] E0 (tCons (tVar 0) tNil)) tNil))) (gName 2)) tNext)
    (tSeq (tIfS (tTest (tOp rEq (tCall spTakeB [] E0 (tCons (tVar 0) (tCons (tC (.int 2)) tNil))) (tC (.int 1)))) (tAsg (tUn (rU fun i => .int (-i)) (tVar 1)) (gName 1)) tNext)
    (tRet (tCall spLowest [] E0 (tCons (tVar 1) (tCons (tVar 2) tNil))))))))
theorem pure_ndrawn {P0 : Program} {K : PySem.W.Frag} {mg : Str → Option Value} {C Z D BN : Addr} (vs : List V) (H : Hp) (Q : VK) (E : XK) (h : spDrawn vs H Q E) : t_ndrawn P0 K mg C Z D BN E { nx := fun _ H' => Q .non H', rt := Q } (start ["pool", "above", "below"] vs) H := by
  obtain ⟨P, rfl, hp, k⟩ := h
  show t_ndrawn P0 K mg C Z D BN E _ [some (.ref P), none, none] H
  unfold t_ndrawn
  simp only [x_seq, x_if, x_test, x_B, x_op, x_un, x_varS, x_var0, x_c, x_I0, x_I, x_U, x_bl, x_ret, x_next, x_eqS, x_neS, x_m0, x_m1, x_isStr, x_SM, x_addT, x_slS, x_lenS, x_strI, x_mulS, x_startT, x_findT, x_preT, x_lstT, x_ascT, x_digT, x_jn, x_js0, x_js1, x_isS, x_fmt, x_fmtS, x_divW, x_truK, x_truS, x_raiseT, x_asg, x_name, x_set0, x_setS, x_drop, x_cb, x_cons, x_nil, x_int1, x_abs1, x_max2, x_gcd, x_gsub, x_sl, x_part, x_nopart, x_int, x_call, x_lst, x_tup, x_not, x_and, x_or, x_andV, x_orV, x_notV, x_ifE, x_eqI, x_neI, x_eqB, x_neB, x_tbm, x_never, x_make, x_meth, x_isII, x_isIC, x_bool1, decide_eq_true_eq, Bool.false_eq_true, if_false, if_true, List.append_nil, List.nil_append, List.cons_append]
  refine size60_of hp fun x H1 hp1 k1 x0 bx => ?_
  simp only [x_seq, x_if, x_test, x_B, x_op, x_un, x_varS, x_var0, x_c, x_I0, x_I, x_U, x_bl, x_ret, x_next, x_eqS, x_neS, x_m0, x_m1, x_isStr, x_SM, x_addT, x_slS, x_lenS, x_strI, x_mulS, x_startT, x_findT, x_preT, x_lstT, x_ascT, x_digT, x_jn, x_js0, x_js1, x_isS, x_fmt, x_fmtS, x_divW, x_truK, x_truS, x_raiseT, x_asg, x_name, x_set0, x_setS, x_drop, x_cb, x_cons, x_nil, x_int1, x_abs1, x_max2, x_gcd, x_gsub, x_sl, x_part, x_nopart, x_int, x_call, x_lst, x_tup, x_not, x_and, x_or, x_andV, x_orV, x_notV, x_ifE, x_eqI, x_neI, x_eqB, x_neB, x_tbm, x_never, x_make, x_meth, x_isII, x_isIC, x_bool1, decide_eq_true_eq, Bool.false_eq_true, if_false, if_true, List.append_nil, List.nil_append, List.cons_append]
  refine take_of (n := 31) hp1 (by decide) (.lit _ (by decide) (by decide) (by decide)) (by decide) fun r H2 hp2 k2 _ _ => ?_
  simp only [x_seq, x_if, x_test, x_B, x_op, x_un, x_varS, x_var0, x_c, x_I0, x_I, x_U, x_bl, x_ret, x_next, x_eqS, x_neS, x_m0, x_m1, x_isStr, x_SM, x_addT, x_slS, x_lenS, x_strI, x_mulS, x_startT, x_findT, x_preT, x_lstT, x_ascT, x_digT, x_jn, x_js0, x_js1, x_isS, x_fmt, x_fmtS, x_divW, x_truK, x_truS, x_raiseT, x_asg, x_name, x_set0, x_setS, x_drop, x_cb, x_cons, x_nil, x_int1, x_abs1, x_max2, x_gcd, x_gsub, x_sl, x_part, x_nopart, x_int, x_call, x_lst, x_tup, x_not, x_and, x_or, x_andV, x_orV, x_notV, x_ifE, x_eqI, x_neI, x_eqB, x_neB, x_tbm, x_never, x_make, x_meth, x_isII, x_isIC, x_bool1, decide_eq_true_eq, Bool.false_eq_true, if_false, if_true, List.append_nil, List.nil_append, List.cons_append]
  have fin : ∀ (y : Int) (H3 : Hp), PoolAt H3 P → Keep P H H3 → 0 < y → y.natAbs < 10 ^ 60 → (tSeq (tIfS (tTest (tOp rEq (tCall spTakeB [] E0 (tCons (tVar 0) (tCons (tC (.int 2)) tNil))) (tC (.int 1)))) (tAsg (tUn (rU fun i => .int (-i)) (tVar 1)) (gName 1)) tNext)
    (tRet (tCall spLowest [] E0 (tCons (tVar 1) (tCons (tVar 2) tNil))))) { nx := fun _ H' => Q .non H', rt := Q } [some (.ref P), some (.int x), some (.int y)] H3 := by
    intro y H3 hp3 k3 y0 by'
    simp only [x_seq, x_if, x_test, x_B, x_op, x_un, x_varS, x_var0, x_c, x_I0, x_I, x_U, x_bl, x_ret, x_next, x_eqS, x_neS, x_m0, x_m1, x_isStr, x_SM, x_addT, x_slS, x_lenS, x_strI, x_mulS, x_startT, x_findT, x_preT, x_lstT, x_ascT, x_digT, x_jn, x_js0, x_js1, x_isS, x_fmt, x_fmtS, x_divW, x_truK, x_truS, x_raiseT, x_asg, x_name, x_set0, x_setS, x_drop, x_cb, x_cons, x_nil, x_int1, x_abs1, x_max2, x_gcd, x_gsub, x_sl, x_part, x_nopart, x_int, x_call, x_lst, x_tup, x_not, x_and, x_or, x_andV, x_orV, x_notV, x_ifE, x_eqI, x_neI, x_eqB, x_neB, x_tbm, x_never, x_make, x_meth, x_isII, x_isIC, x_bool1, decide_eq_true_eq, Bool.false_eq_true, if_false, if_true, List.append_nil, List.nil_append, List.cons_append]
    refine take_of (n := 31) hp3 (by decide) (.lit _ (by decide) (by decide) (by decide)) (by decide) fun r H4 hp4 k4 _ _ => ?_
    simp only [x_seq, x_if, x_test, x_B, x_op, x_un, x_varS, x_var0, x_c, x_I0, x_I, x_U, x_bl, x_ret, x_next, x_eqS, x_neS, x_m0, x_m1, x_isStr, x_SM, x_addT, x_slS, x_lenS, x_strI, x_mulS, x_startT, x_findT, x_preT, x_lstT, x_ascT, x_digT, x_jn, x_js0, x_js1, x_isS, x_fmt, x_fmtS, x_divW, x_truK, x_truS, x_raiseT, x_asg, x_name, x_set0, x_setS, x_drop, x_cb, x_cons, x_nil, x_int1, x_abs1, x_max2, x_gcd, x_gsub, x_sl, x_part, x_nopart, x_int, x_call, x_lst, x_tup, x_not, x_and, x_or, x_andV, x_orV, x_notV, x_ifE, x_eqI, x_neI, x_eqB, x_neB, x_tbm, x_never, x_make, x_meth, x_isII, x_isIC, x_bool1, decide_eq_true_eq, Bool.false_eq_true, if_false, if_true, List.append_nil, List.nil_append, List.cons_append]
    have out : ∀ z : Int, z.natAbs < 10 ^ 60 → spLowest [.int z, .int y] H4 Q E0 := fun z bz => by
      refine ⟨z, y, rfl, y0, (bd60 bz).mono (by decide), (bd60 by').mono (by decide), fun o H' t b ho hn s => ?_⟩
      have l := hn.le (by omega)
      exact k o H' t b ho ⟨by omega, by omega, hn.pos, hn.cop⟩ (hp4.same s) ((k3.trans k4).trans (Keep.of s))
    refine ite2 (fun _ => ?_) fun _ => ?_
    · exact out _ (by omega)
    · exact out _ bx
  refine ite2 (fun _ => ?_) fun _ => ?_
  · refine size60_of hp2 fun y H3 hp3 k3 y0 by' => ?_
    simp only [x_seq, x_if, x_test, x_B, x_op, x_un, x_varS, x_var0, x_c, x_I0, x_I, x_U, x_bl, x_ret, x_next, x_eqS, x_neS, x_m0, x_m1, x_isStr, x_SM, x_addT, x_slS, x_lenS, x_strI, x_mulS, x_startT, x_findT, x_preT, x_lstT, x_ascT, x_digT, x_jn, x_js0, x_js1, x_isS, x_fmt, x_fmtS, x_divW, x_truK, x_truS, x_raiseT, x_asg, x_name, x_set0, x_setS, x_drop, x_cb, x_cons, x_nil, x_int1, x_abs1, x_max2, x_gcd, x_gsub, x_sl, x_part, x_nopart, x_int, x_call, x_lst, x_tup, x_not, x_and, x_or, x_andV, x_orV, x_notV, x_ifE, x_eqI, x_neI, x_eqB, x_neB, x_tbm, x_never, x_make, x_meth, x_isII, x_isIC, x_bool1, decide_eq_true_eq, Bool.false_eq_true, if_false, if_true, List.append_nil, List.nil_append, List.cons_append]
    have := fin (if y > 1 then y else 1) H3 hp3 ((k1.trans k2).trans k3) max1_pos (by
      split
      · exact by'
      · decide +kernel)
    simpa only [x_seq, x_if, x_test, x_B, x_op, x_un, x_varS, x_var0, x_c, x_I0, x_I, x_U, x_bl, x_ret, x_next, x_eqS, x_neS, x_m0, x_m1, x_isStr, x_SM, x_addT, x_slS, x_lenS, x_strI, x_mulS, x_startT, x_findT, x_preT, x_lstT, x_ascT, x_digT, x_jn, x_js0, x_js1, x_isS, x_fmt, x_fmtS, x_divW, x_truK, x_truS, x_raiseT, x_asg, x_name, x_set0, x_setS, x_drop, x_cb, x_cons, x_nil, x_int1, x_abs1, x_max2, x_gcd, x_gsub, x_sl, x_part, x_nopart, x_int, x_call, x_lst, x_tup, x_not, x_and, x_or, x_andV, x_orV, x_notV, x_ifE, x_eqI, x_neI, x_eqB, x_neB, x_tbm, x_never, x_make, x_meth, x_isII, x_isIC, x_bool1, decide_eq_true_eq, Bool.false_eq_true, if_false, if_true, List.append_nil, List.nil_append, List.cons_append] using this
  · have := fin 1 H2 hp2 (k1.trans k2) (by decide) (by decide +kernel)
    simpa only [x_seq, x_if, x_test, x_B, x_op, x_un, x_varS, x_var0, x_c, x_I0, x_I, x_U, x_bl, x_ret, x_next, x_eqS, x_neS, x_m0, x_m1, x_isStr, x_SM, x_addT, x_slS, x_lenS, x_strI, x_mulS, x_startT, x_findT, x_preT, x_lstT, x_ascT, x_digT, x_jn, x_js0, x_js1, x_isS, x_fmt, x_fmtS, x_divW, x_truK, x_truS, x_raiseT, x_asg, x_name, x_set0, x_setS, x_drop, x_cb, x_cons, x_nil, x_int1, x_abs1, x_max2, x_gcd, x_gsub, x_sl, x_part, x_nopart, x_int, x_call, x_lst, x_tup, x_not, x_and, x_or, x_andV, x_orV, x_notV, x_ifE, x_eqI, x_neI, x_eqB, x_neB, x_tbm, x_never, x_make, x_meth, x_isII, x_isIC, x_bool1, decide_eq_true_eq, Bool.false_eq_true, if_false, if_true, List.append_nil, List.nil_append, List.cons_append] using this
/-- a number's text -/
def spWritten : Sp := fun vs H Q _ => ∃ (o : Addr) (t b : Int), vs = [.ref o] ∧ TupAt H o t b ∧ 0 < b ∧ Bd 900 t ∧ Bd 900 b ∧ ∀ y : Str, tl y = written t b → Q (.str y) H
theorem log1920 {a : Int} (h : Bd 900 a) : a.natAbs.log2 < 1920 := Nat.lt_of_lt_of_le (PySem.Flt.log2_lt_of (by decide) h) (by decide)
theorem num_len' {n : Nat} {k : Nat} (hk : 0 < k) (h : n < 2 ^ (3 * k)) : (numD n).length ≤ k := num_len hk (Nat.lt_of_lt_of_le h (by
  rw [Nat.pow_mul]
  exact Nat.pow_le_pow_left (by decide) k))
theorem len_str (x : Str) {n : Nat} (h : (tl x).length ≤ n) : x.length ≤ n := by
  rw [tl_len]
  exact h
theorem int_pos {b : Int} (h : 0 < b) : intD b = numD b.natAbs := by
  unfold intD
  rw [if_neg (by omega), List.nil_append]
theorem intD_len {a : Int} (h : Bd 900 a) : (intD a).length ≤ 301 := by
  have := num_len' (n := a.natAbs) (k := 300) (by decide) h
  unfold intD
  rw [List.length_append]
  split <;> simp <;> omega
theorem written_1 (t : Int) : written t 1 = intD t := by
  unfold written intD
  rw [if_pos rfl, List.append_nil]
theorem written_n {t b : Int} (h : b ≠ 1) : written t b = intD t ++ 47 :: numD b.natAbs := by
  unfold written intD
  rw [if_neg h]
def t_nwritten (P : Program) (K : PySem.W.Frag) (mg : Str → Option Value) (C Z D BN : Addr) (E : XK) : TS :=
    (tSeq (tIfS (tTest (tOp rEq (tOp rIx1 (tVar 0) (tC (.int 1))) (tC (.int 1)))) (tRet (tCB rStrI (tCons (tOp rIx1 (tVar 0) (tC (.int 0))) tNil))) tNext)
    (tRet (tOp rAddT (tOp rAddT (tCB rStrI (tCons (tOp rIx1 (tVar 0) (tC (.int 0))) tNil)) (tC (.str "/"))) (tCB rStrI (tCons (tOp rIx1 (tVar 0) (tC (.int 1))) tNil)))))
theorem pure_nwritten {P0 : Program} {K : PySem.W.Frag} {mg : Str → Option Value} {C Z D BN : Addr} (vs : List V) (H : Hp) (Q : VK) (E : XK) (h : spWritten vs H Q E) : t_nwritten P0 K mg C Z D BN E { nx := fun _ H' => Q .non H', rt := Q } (start ["pair"] vs) H := by
  obtain ⟨o, t, b, rfl, ho, hb, bt, bb, k⟩ := h
  show t_nwritten P0 K mg C Z D BN E _ [some (.ref o)] H
  unfold t_nwritten
  simp only [x_seq, x_if, x_test, x_B, x_op, x_un, x_varS, x_var0, x_c, x_I0, x_I, x_U, x_bl, x_ret, x_next, x_eqS, x_neS, x_m0, x_m1, x_isStr, x_SM, x_addT, x_slS, x_lenS, x_strI, x_mulS, x_startT, x_findT, x_preT, x_lstT, x_ascT, x_digT, x_jn, x_js0, x_js1, x_isS, x_fmt, x_fmtS, x_divW, x_truK, x_truS, x_raiseT, x_asg, x_name, x_set0, x_setS, x_drop, x_cb, x_cons, x_nil, x_int1, x_abs1, x_max2, x_gcd, x_gsub, x_sl, x_part, x_nopart, x_int, x_call, x_lst, x_tup, x_not, x_and, x_or, x_andV, x_orV, x_notV, x_ifE, x_eqI, x_neI, x_eqB, x_neB, x_tbm, x_never, x_make, x_meth, x_isII, x_isIC, x_bool1, decide_eq_true_eq, Bool.false_eq_true, if_false, if_true, List.append_nil, List.nil_append, List.cons_append, x_ixT ho at0, x_ixT ho at1]
  refine ite2 (fun h1 => ?_) fun h1 => ?_
  · subst h1
    exact ⟨log1920 bt, k _ (by rw [tl_int, written_1])⟩
  · have l1 := intD_len bt
    have l2 := num_len' (n := b.natAbs) (k := 300) (by decide) bb
    refine ⟨log1920 bt, sl5 ?_, log1920 bb, sl5 ?_, k _ ?_⟩
    · rw [tl_len, tl_len, tl_int, tl_slash]
      simp
      omega
    · rw [tl_len, tl_len, TL.tl_append, tl_int, tl_int, tl_slash, int_pos hb]
      simp
      omega
    · rw [TL.tl_append, TL.tl_append, tl_int, tl_int, tl_slash, written_n h1, int_pos hb, List.append_assoc]
      rfl
end SpX

set_option Elab.async false
set_option linter.all false
set_option maxRecDepth 100000
set_option maxHeartbeats 2000000
/-! Law k01: which texts are numbers, decided sign by sign. -/
namespace SpX
open PySem PySem.Spec NumText L2
open TL (tl)
theorem for_strV {te : TE} {z : Str} {g : TG} {tb : TS} {D : Ends} {σ : L2.St} {H : Hp} (he : ∀ Q : VK, te σ H Q = Q (.str z) H) (Pv : Nat → L2.St → Hp → Prop) (h0 : Pv 0 σ H)
    (hs : ∀ (i c : Nat) σ H, (tl z)[i]? = some c → Pv i σ H → g (.str ⟨#[c]⟩) σ H fun σ2 H2 => tb { D with nx := Pv (i + 1), ct := Pv (i + 1), bk := D.nx } σ2 H2) (hd : ∀ σ H, Pv (tl z).length σ H → D.nx σ H) : tFor (iStr te) g tb D σ H := by
  show te σ H _
  rw [he]
  refine ⟨z, rfl, ?_⟩
  have e : (tl z).length = z.cps.size := by simp [TL.tl]
  refine for_it (walk_str (z := z)) Pv h0 (fun _ _ _ _ _ => trivial) (fun i x σ H H' hi hp y => ?_) (fun σ H hp => hd σ H (by rw [e]; exact hp))
  obtain ⟨rfl, c, hc, rfl⟩ := y
  exact hs i c σ H' (by rw [← hc]; simp [TL.tl]) hp
theorem x_ixS {z : Str} {i : Int} {c : Nat} {H : Hp} {Q : VK} (hz : z.length ≤ sizeLine) (h : atI (tl z) i = some c) : rIxS (.str z) (.int i) H Q = Q (.str ⟨#[c]⟩) H := propext (Iff.intro
  (fun ⟨_, _, _, e1, e2, _, h2, q⟩ => by
    cases e1; cases e2
    rw [show atI _ i = some c from h] at h2
    cases h2
    exact q)
  (fun q => ⟨_, _, _, rfl, rfl, hz, h, q⟩))
theorem one_eq (c d : Nat) (x : Str) (hx : tl x = [d]) : decide ((⟨#[c]⟩ : Str) = x) = decide (c = d) := by
  rw [dec_str, hx]
  show decide ([c] = [d]) = _
  simp
def grpI (l : List Nat) : Int := match grp l with | some n => n | none => -1
def spGroup : Sp := fun vs H Q _ => ∃ a : Str, vs = [.str a] ∧ a.length ≤ sizeLine ∧ Q (.int (grpI (tl a))) H
theorem take_snoc {l : List Nat} {i c : Nat} (h : l[i]? = some c) : l.take (i + 1) = l.take i ++ [c] := by
  rw [List.take_add_one, h]
  rfl
theorem len_tl60 {l : List Nat} {i : Nat} (h : l.length ≤ 60) : (l.take i).length ≤ 60 := by
  rw [List.length_take]
  omega
theorem val_bd {l : List Nat} (h : AllDigits l) (hl : l.length ≤ 60) : ((digitsVal l : Nat) : Int).natAbs < 2 ^ 200 := by
  rw [Int.natAbs_natCast]
  exact Nat.lt_of_lt_of_le (digitsVal_lt h) (Nat.le_trans (Nat.pow_le_pow_right (by decide) hl) le60)
def t_ngroup (P : Program) (K : PySem.W.Frag) (mg : Str → Option Value) (C Z D BN : Addr) (E : XK) : TS :=
    (tSeq (tIfS (tOr (tTest (tOp (rI0 fun i j => .bl (decide (i < j))) (tCB rLenT (tCons (tVar 0) tNil)) (tC (.int 1)))) (tOr (tTest (tOp (rI0 fun i j => .bl (decide (j < i))) (tCB rLenT (tCons (tVar 0) tNil)) (tC (.int 60)))) (tAnd (tTest (tOp (rI0 fun i j => .bl (decide (j < i))) (tCB rLenT (tCons (tVar 0) tNil)) (tC (.int 1)))) (tTest (tOp rEq (tOp rIxS (tVar 0) (tC (.int 0))) (tC (.str "0"))))))) (tRet (tUn (rU fun i => .int (-i)) (tC (.int 1)))) tNext)
    (tSeq (tAsg (tC (.int 0)) (gName 1))
    (tSeq (tFor (iStr (tVar 0)) (gName 2) ((tSeq (tAsg (tM1 rFindT (tC (.str "0123456789")) (tVar 2)) (gName 3))
    (tSeq (tIfS (tTest (tOp (rI0 fun i j => .bl (decide (i < j))) (tVar 3) (tC (.int 0)))) (tRet (tUn (rU fun i => .int (-i)) (tC (.int 1)))) tNext)
    (tAsg (tOp (rI0 fun i j => .int (i + j)) (tOp (rI IntMulOk fun i j => .int (i * j)) (tVar 1) (tC (.int 10))) (tVar 3)) (gName 1))))))
    (tRet (tVar 1)))))
theorem pure_ngroup {P0 : Program} {K : PySem.W.Frag} {mg : Str → Option Value} {C Z D BN : Addr} (vs : List V) (H : Hp) (Q : VK) (E : XK) (h : spGroup vs H Q E) : t_ngroup P0 K mg C Z D BN E { nx := fun _ H' => Q .non H', rt := Q } (start ["text", "value", "mark", "place"] vs) H := by
  obtain ⟨a, rfl, hz, k⟩ := h
  show t_ngroup P0 K mg C Z D BN E _ [some (.str a), none, none, none] H
  unfold t_ngroup
  simp only [x_seq, x_if, x_test, x_B, x_op, x_un, x_varS, x_var0, x_c, x_I0, x_I, x_U, x_bl, x_ret, x_next, x_eqS, x_neS, x_m0, x_m1, x_isStr, x_SM, x_addT, x_slS, x_lenS, x_strI, x_mulS, x_startT, x_findT, x_preT, x_lstT, x_ascT, x_digT, x_jn, x_js0, x_js1, x_isS, x_fmt, x_fmtS, x_divW, x_truK, x_truS, x_raiseT, x_asg, x_name, x_set0, x_setS, x_drop, x_cb, x_cons, x_nil, x_int1, x_abs1, x_max2, x_gcd, x_gsub, x_sl, x_part, x_nopart, x_int, x_call, x_lst, x_tup, x_not, x_and, x_or, x_andV, x_orV, x_notV, x_ifE, x_eqI, x_neI, x_eqB, x_neB, x_tbm, x_never, x_make, x_meth, x_isII, x_isIC, x_bool1, decide_eq_true_eq, Bool.false_eq_true, if_false, if_true, List.append_nil, List.nil_append, List.cons_append]
  have none_of : cnt (tl a) = false ∨ (1 < (tl a).length ∧ (tl a).head? = some 48) → Q (.int (-1)) H := fun q => by
    have : grp (tl a) = none := by
      rcases q with q | ⟨q1, q2⟩
      · exact grp_cnt q
      · unfold grp
        rw [if_neg]
        rintro ⟨_, q⟩
        exact q q1 q2
    unfold grpI at k
    rw [this] at k
    exact k
  have hlen := tl_len a
  refine ⟨hz, ite2 (fun h1 => ?_) fun h1 => ⟨hz, ite2 (fun h2 => ?_) fun h2 => ⟨hz, ?_⟩⟩⟩
  · refine none_of (.inl ?_)
    have : tl a = [] := List.length_eq_zero_iff.mp (by omega)
    rw [this]
    rfl
  · refine none_of (.inl ?_)
    rw [Bool.eq_false_iff]
    intro q
    have := (cnt_iff.mp q).1
    omega
  · -- the rest
    have hne : tl a ≠ [] := fun e => by
      rw [e] at hlen
      simp at hlen
      omega
    have loop : ¬ (1 < (tl a).length ∧ (tl a).head? = some 48) → tFor (iStr (tVar 0)) (gName 2) (tSeq (tAsg (tM1 rFindT (tC (.str "0123456789")) (tVar 2)) (gName 3))
        (tSeq (tIfS (tTest (tOp (rI0 fun i j => .bl (decide (i < j))) (tVar 3) (tC (.int 0)))) (tRet (tUn (rU fun i => .int (-i)) (tC (.int 1)))) tNext)
        (tAsg (tOp (rI0 fun i j => .int (i + j)) (tOp (rI IntMulOk fun i j => .int (i * j)) (tVar 1) (tC (.int 10))) (tVar 3)) (gName 1))))
        { nx := (tRet (tVar 1)) { nx := fun _ H' => Q .non H', rt := Q }, rt := Q } [some (.str a), some (.int 0), none, none] H := by
      intro hh
      refine for_strV (z := a) (fun Q => by simp only [x_seq, x_if, x_test, x_B, x_op, x_un, x_varS, x_var0, x_c, x_I0, x_I, x_U, x_bl, x_ret, x_next, x_eqS, x_neS, x_m0, x_m1, x_isStr, x_SM, x_addT, x_slS, x_lenS, x_strI, x_mulS, x_startT, x_findT, x_preT, x_lstT, x_ascT, x_digT, x_jn, x_js0, x_js1, x_isS, x_fmt, x_fmtS, x_divW, x_truK, x_truS, x_raiseT, x_asg, x_name, x_set0, x_setS, x_drop, x_cb, x_cons, x_nil, x_int1, x_abs1, x_max2, x_gcd, x_gsub, x_sl, x_part, x_nopart, x_int, x_call, x_lst, x_tup, x_not, x_and, x_or, x_andV, x_orV, x_notV, x_ifE, x_eqI, x_neI, x_eqB, x_neB, x_tbm, x_never, x_make, x_meth, x_isII, x_isIC, x_bool1, decide_eq_true_eq, Bool.false_eq_true, if_false, if_true, List.append_nil, List.nil_append, List.cons_append]) (fun i σ H' => H' = H ∧ AllDigits ((tl a).take i) ∧ ∃ u v : Option V, σ = [some (.str a), some (.int ((digitsVal ((tl a).take i) : Nat) : Int)), u, v])
        ⟨rfl, by rw [List.take_zero]; exact fun c hc => absurd hc (by simp), none, none, rfl⟩ ?_ ?_
      · rintro i c σ H' hc ⟨rfl, hd, u, v, rfl⟩
        simp only [x_seq, x_if, x_test, x_B, x_op, x_un, x_varS, x_var0, x_c, x_I0, x_I, x_U, x_bl, x_ret, x_next, x_eqS, x_neS, x_m0, x_m1, x_isStr, x_SM, x_addT, x_slS, x_lenS, x_strI, x_mulS, x_startT, x_findT, x_preT, x_lstT, x_ascT, x_digT, x_jn, x_js0, x_js1, x_isS, x_fmt, x_fmtS, x_divW, x_truK, x_truS, x_raiseT, x_asg, x_name, x_set0, x_setS, x_drop, x_cb, x_cons, x_nil, x_int1, x_abs1, x_max2, x_gcd, x_gsub, x_sl, x_part, x_nopart, x_int, x_call, x_lst, x_tup, x_not, x_and, x_or, x_andV, x_orV, x_notV, x_ifE, x_eqI, x_neI, x_eqB, x_neB, x_tbm, x_never, x_make, x_meth, x_isII, x_isIC, x_bool1, decide_eq_true_eq, Bool.false_eq_true, if_false, if_true, List.append_nil, List.nil_append, List.cons_append, find_digit]
        by_cases hdig : 48 ≤ c ∧ c ≤ 57
        · rw [if_pos hdig, if_neg (by omega)]
          refine ⟨mul_lit (by decide), trivial, ?_, some (.str ⟨#[c]⟩), some (.int ((c : Int) - 48)), ?_⟩
          · rw [take_snoc hc]
            intro d hd'
            rcases List.mem_append.mp hd' with z | z
            · exact hd d z
            · rw [List.mem_singleton.mp z]
              exact hdig
          · rw [take_snoc hc, digitsVal_snoc]
            congr 3
            rw [show ((digitsVal ((tl a).take i) * 10 + (c - 48) : Nat) : Int) = (digitsVal ((tl a).take i) : Int) * 10 + ((c : Int) - 48) by omega]
        · rw [if_neg hdig, if_pos (by decide)]
          refine none_of (.inl ?_)
          rw [Bool.eq_false_iff]
          intro q
          exact hdig ((cnt_iff.mp q).2.2 c (List.mem_of_getElem? hc))
      · rintro σ H' ⟨rfl, hd, u, v, rfl⟩
        simp only [x_seq, x_if, x_test, x_B, x_op, x_un, x_varS, x_var0, x_c, x_I0, x_I, x_U, x_bl, x_ret, x_next, x_eqS, x_neS, x_m0, x_m1, x_isStr, x_SM, x_addT, x_slS, x_lenS, x_strI, x_mulS, x_startT, x_findT, x_preT, x_lstT, x_ascT, x_digT, x_jn, x_js0, x_js1, x_isS, x_fmt, x_fmtS, x_divW, x_truK, x_truS, x_raiseT, x_asg, x_name, x_set0, x_setS, x_drop, x_cb, x_cons, x_nil, x_int1, x_abs1, x_max2, x_gcd, x_gsub, x_sl, x_part, x_nopart, x_int, x_call, x_lst, x_tup, x_not, x_and, x_or, x_andV, x_orV, x_notV, x_ifE, x_eqI, x_neI, x_eqB, x_neB, x_tbm, x_never, x_make, x_meth, x_isII, x_isIC, x_bool1, decide_eq_true_eq, Bool.false_eq_true, if_false, if_true, List.append_nil, List.nil_append, List.cons_append]
        rw [List.take_length] at hd ⊢
        have hc : cnt (tl a) = true := cnt_iff.mpr ⟨by omega, hne, hd⟩
        have hg : grp (tl a) = some (digitsVal (tl a)) := by
          unfold grp
          rw [if_pos ⟨hc, fun q1 q2 => hh ⟨q1, q2⟩⟩]
        unfold grpI at k
        rw [hg] at k
        exact k
    refine ite2 (fun h3 => ?_) fun h3 => ?_
    · cases e : tl a with
      | nil => exact absurd e hne
      | cons c r =>
        have hat : atI (tl a) 0 = some c := by
          rw [e]
          show atI (c :: r) ((0 : Nat) : Int) = some c
          exact atI_nat rfl
        simp only [x_seq, x_if, x_test, x_B, x_op, x_un, x_varS, x_var0, x_c, x_I0, x_I, x_U, x_bl, x_ret, x_next, x_eqS, x_neS, x_m0, x_m1, x_isStr, x_SM, x_addT, x_slS, x_lenS, x_strI, x_mulS, x_startT, x_findT, x_preT, x_lstT, x_ascT, x_digT, x_jn, x_js0, x_js1, x_isS, x_fmt, x_fmtS, x_divW, x_truK, x_truS, x_raiseT, x_asg, x_name, x_set0, x_setS, x_drop, x_cb, x_cons, x_nil, x_int1, x_abs1, x_max2, x_gcd, x_gsub, x_sl, x_part, x_nopart, x_int, x_call, x_lst, x_tup, x_not, x_and, x_or, x_andV, x_orV, x_notV, x_ifE, x_eqI, x_neI, x_eqB, x_neB, x_tbm, x_never, x_make, x_meth, x_isII, x_isIC, x_bool1, decide_eq_true_eq, Bool.false_eq_true, if_false, if_true, List.append_nil, List.nil_append, List.cons_append, x_ixS hz hat, one_eq c 48 "0" tl_zero]
        refine ite2 (fun h4 => ?_) fun h4 => ?_
        · exact none_of (.inr ⟨by omega, by rw [e, h4]; rfl⟩)
        · exact loop fun q => h4 (by
            have := q.2
            rw [e] at this
            exact Option.some.inj this)
    · exact loop fun q => h3 (by omega)
/-- what a text says: None, or a new tuple -/
def spJudged : Sp := fun vs H Q _ => ∃ a : Str, vs = [.str a] ∧ a.length + 2 ≤ sizeLine ∧ ∀ H', Same H H' → match numOf (tl a) with
  | none => Q .non H'
  | some (t, b) => ∀ (o : Addr) (H2 : Hp), TupAt H2 o t b → Same H' H2 → Q (.ref o) H2
theorem group_of {a : Str} {H : Hp} {Q : VK} {E : XK} (hz : a.length ≤ sizeLine) (k : Q (.int (grpI (tl a))) H) : spGroup [.str a] H Q E := ⟨a, rfl, hz, k⟩
theorem cut1 (a : Str) : cutS a none (some 1) = cutS a none (some ((1 : Nat) : Int)) := rfl
theorem cut1' (a : Str) : cutS a (some 1) none = cutS a (some ((1 : Nat) : Int)) none := rfl
theorem head_minus (a : Str) : decide (cutS a none (some 1) = "-") = neg? (tl a) := by
  rw [dec_str, cut1, tl_cut_to, tl_minus]
  unfold neg?
  cases tl a with
  | nil => rfl
  | cons c r =>
    rw [List.take_succ_cons, List.take_zero, List.head?_cons]
    by_cases h : c = 45
    · rw [h] <;> rfl
    · have e2 : (some c == some 45) = false := by simp [h]
      rw [e2, decide_eq_false (by simp [h])]
theorem grpI_neg {l : List Nat} : (grpI l < 0) ↔ grp l = none := by
  unfold grpI
  cases grp l with
  | none => simp
  | some n => simp
theorem grpI_some {l : List Nat} {n : Nat} (h : grp l = some n) : grpI l = n := by
  unfold grpI
  rw [h]
theorem slash_grp {l : List Nat} (h : 47 ∈ l) : grp l = none := grp_cnt (by
  rw [Bool.eq_false_iff]
  intro q
  have := (cnt_iff.mp q).2.2 47 h
  omega)
theorem slash_len : (("/" : Str).length == 0) = false := by decide +kernel
theorem x_spl {a : Str} {H : Hp} {Q : VK} : rSplT (.str a) [.str "/"] H Q = (a.length + 2 ≤ sizeLine ∧ ∀ p, H p = none → Q (.ref p) (upd H p (.lst ((Txt.split a "/").map V.str)))) := x_splT slash_len
/-- what the cut text is: one group, two, or more -/
theorem cuts (x : Str) : match part47 (tl x) with
    | (_, none) => ∃ g, Txt.split x "/" = [g] ∧ tl g = (part47 (tl x)).1
    | (_, some r) => (∃ g h, Txt.split x "/" = [g, h] ∧ tl g = (part47 (tl x)).1 ∧ tl h = r) ∨ (∃ g h k m, Txt.split x "/" = g :: h :: k :: m ∧ tl g = (part47 (tl x)).1 ∧ 47 ∈ r) := by
  have hs := split_slash x
  rw [spl47] at hs
  cases e : part47 (tl x) with
  | mk a o =>
    rw [e] at hs
    cases o with
    | none =>
      dsimp only at hs ⊢
      rw [List.nil_append] at hs
      cases e2 : Txt.split x "/" with
      | nil => rw [e2] at hs; cases hs
      | cons g m =>
        rw [e2, List.map_cons] at hs
        injection hs with h1 h2
        exact ⟨g, by rw [List.map_eq_nil_iff.mp h2], h1⟩
    | some r =>
      dsimp only at hs ⊢
      rw [List.nil_append, spl47] at hs
      have hb := part47_back r
      cases e3 : part47 r with
      | mk y o2 =>
        rw [e3] at hs hb
        cases o2 with
        | none =>
          dsimp only at hs hb
          rw [List.nil_append] at hs
          rw [List.append_nil] at hb
          left
          cases e2 : Txt.split x "/" with
          | nil => rw [e2] at hs; cases hs
          | cons g m =>
            rw [e2, List.map_cons] at hs
            injection hs with h1 h2
            cases m with
            | nil => cases h2
            | cons h m =>
              rw [List.map_cons] at h2
              injection h2 with h3 h4
              exact ⟨g, h, by rw [List.map_eq_nil_iff.mp h4], h1, by rw [h3]; exact hb.1.symm⟩
        | some z =>
          dsimp only at hs hb
          right
          cases e2 : Txt.split x "/" with
          | nil => rw [e2] at hs; cases hs
          | cons g m =>
            rw [e2, List.map_cons] at hs
            injection hs with h1 h2
            cases m with
            | nil => cases h2
            | cons h m =>
              rw [List.map_cons] at h2
              injection h2 with h3 h4
              cases m with
              | nil =>
                rw [spl47] at h4
                cases e4 : part47 z with
                | mk u o3 =>
                  rw [e4] at h4
                  cases o3 <;> cases h4
              | cons k m =>
                exact ⟨g, h, k, m, rfl, h1, by rw [hb.1]; simp⟩
theorem body_len (l : List Nat) : (body l).length ≤ l.length := by
  unfold body
  split
  · rw [List.length_tail]
    omega
  · exact Nat.le_refl _
theorem body_ne {l : List Nat} : decide (body l = l) = !neg? l := by
  unfold body
  cases h : neg? l with
  | false => simp
  | true =>
    rw [if_pos rfl]
    have : l.tail ≠ l := fun e => by
      have e' := congrArg List.length e
      rw [List.length_tail] at e'
      unfold neg? at h
      cases l with
      | nil => cases h
      | cons c r => simp at e'
    simp [this]
theorem common_of {a b : Int} {H : Hp} {Q : VK} {E : XK} (hb : Bd 8000 b) (k : Q (.int ((Nat.gcd a.natAbs b.natAbs : Nat) : Int)) H) : spCommon [.int a, .int b] H Q E := ⟨a, b, rfl, hb, k⟩
theorem grp_bd {l : List Nat} {n : Nat} (h : grp l = some n) : Bd 200 (n : Int) := by
  have := (grp_some h).2.2.2.2
  unfold Bd
  rw [Int.natAbs_natCast]
  exact Nat.lt_of_lt_of_le this le60
def t_njudged_2 (P : Program) (K : PySem.W.Frag) (mg : Str → Option Value) (C Z D BN : Addr) (E : XK) : TS :=
    (tSeq (tAsg (tM1 rSplT (tVar 1) (tC (.str "/"))) (gName 2))
    (tSeq (tAsg (tCall spGroup [] E0 (tCons (tOp rIx1 (tVar 2) (tC (.int 0))) tNil)) (gName 3))
    (tSeq (tIfS (tOr (tTest (tOp (rI0 fun i j => .bl (decide (j < i))) (tCB rLenA (tCons (tVar 2) tNil)) (tC (.int 2)))) (tTest (tOp (rI0 fun i j => .bl (decide (i < j))) (tVar 3) (tC (.int 0))))) (tRet (tC .non)) tNext)
    (tSeq (tAsg (tC (.int 1)) (gName 4))
    (tSeq (tIfS (tTest (tOp rEq (tCB rLenA (tCons (tVar 2) tNil)) (tC (.int 2)))) (tSeq (tAsg (tCall spGroup [] E0 (tCons (tOp rIx1 (tVar 2) (tC (.int 1))) tNil)) (gName 4))
    (tIfS (tOr (tTest (tOp (rI0 fun i j => .bl (decide (i < j))) (tVar 4) (tC (.int 2)))) (tTest (tOp rNe (tCall spCommon [] E0 (tCons (tVar 3) (tCons (tVar 4) tNil))) (tC (.int 1))))) (tRet (tC .non)) tNext)) tNext)
    (tSeq (tIfS (tTest (tOp rEq (tVar 1) (tVar 0))) (tRet (tTup (tCons (tVar 3) (tCons (tVar 4) tNil)))) tNext)
    (tSeq (tIfS (tTest (tOp rEq (tVar 3) (tC (.int 0)))) (tRet (tC .non)) tNext)
    (tRet (tTup (tCons (tUn (rU fun i => .int (-i)) (tVar 3)) (tCons (tVar 4) tNil)))))))))))
def t_njudged (P : Program) (K : PySem.W.Frag) (mg : Str → Option Value) (C Z D BN : Addr) (E : XK) : TS :=
    (tSeq (tAsg (tVar 0) (gName 1))
    (tSeq (tIfS (tTest (tOp rEq (tSl rSlS (tVar 0) tNoPart (tPart (tC (.int 1)))) (tC (.str "-")))) (tAsg (tSl rSlS (tVar 0) (tPart (tC (.int 1))) tNoPart) (gName 1)) tNext)
    (tSeq (tAsg (tM1 rSplT (tVar 1) (tC (.str "/"))) (gName 2))
    (tSeq (tAsg (tCall spGroup [] E0 (tCons (tOp rIx1 (tVar 2) (tC (.int 0))) tNil)) (gName 3))
    (tSeq (tIfS (tOr (tTest (tOp (rI0 fun i j => .bl (decide (j < i))) (tCB rLenA (tCons (tVar 2) tNil)) (tC (.int 2)))) (tTest (tOp (rI0 fun i j => .bl (decide (i < j))) (tVar 3) (tC (.int 0))))) (tRet (tC .non)) tNext)
    (tSeq (tAsg (tC (.int 1)) (gName 4))
    (tSeq (tIfS (tTest (tOp rEq (tCB rLenA (tCons (tVar 2) tNil)) (tC (.int 2)))) (tSeq (tAsg (tCall spGroup [] E0 (tCons (tOp rIx1 (tVar 2) (tC (.int 1))) tNil)) (gName 4))
    (tIfS (tOr (tTest (tOp (rI0 fun i j => .bl (decide (i < j))) (tVar 4) (tC (.int 2)))) (tTest (tOp rNe (tCall spCommon [] E0 (tCons (tVar 3) (tCons (tVar 4) tNil))) (tC (.int 1))))) (tRet (tC .non)) tNext)) tNext)
    (tSeq (tIfS (tTest (tOp rEq (tVar 1) (tVar 0))) (tRet (tTup (tCons (tVar 3) (tCons (tVar 4) tNil)))) tNext)
    (tSeq (tIfS (tTest (tOp rEq (tVar 3) (tC (.int 0)))) (tRet (tC .non)) tNext)
    (tRet (tTup (tCons (tUn (rU fun i => .int (-i)) (tVar 3)) (tCons (tVar 4) tNil)))))))))))))
theorem pure_njudged {P0 : Program} {K : PySem.W.Frag} {mg : Str → Option Value} {C Z D BN : Addr} (vs : List V) (H : Hp) (Q : VK) (E : XK) (h : spJudged vs H Q E) : t_njudged P0 K mg C Z D BN E { nx := fun _ H' => Q .non H', rt := Q } (start ["text", "body", "groups", "above", "below"] vs) H := by
  obtain ⟨a, rfl, hz, k⟩ := h
  show t_njudged P0 K mg C Z D BN E _ [some (.str a), none, none, none, none] H
  have hz0 : a.length ≤ sizeLine := by omega
  have rest : ∀ B : Str, tl B = body (tl a) → t_njudged_2 P0 K mg C Z D BN E { nx := fun _ H' => Q .non H', rt := Q } [some (.str a), some (.str B), none, none, none] H := by
    intro B hB
    have hBl : B.length ≤ a.length := by
      rw [tl_len, tl_len, hB]
      exact body_len _
    have hBa : decide (B = a) = !neg? (tl a) := by rw [dec_str, hB, body_ne]
    have hcut := cuts B
    rw [hB] at hcut
    unfold t_njudged_2
    simp only [x_seq, x_if, x_test, x_B, x_op, x_un, x_varS, x_var0, x_c, x_I0, x_I, x_U, x_bl, x_ret, x_next, x_eqS, x_neS, x_m0, x_m1, x_isStr, x_SM, x_addT, x_slS, x_lenS, x_strI, x_mulS, x_startT, x_findT, x_preT, x_lstT, x_ascT, x_digT, x_jn, x_js0, x_js1, x_isS, x_fmt, x_fmtS, x_divW, x_truK, x_truS, x_raiseT, x_asg, x_name, x_set0, x_setS, x_drop, x_cb, x_cons, x_nil, x_int1, x_abs1, x_max2, x_gcd, x_gsub, x_sl, x_part, x_nopart, x_int, x_call, x_lst, x_tup, x_not, x_and, x_or, x_andV, x_orV, x_notV, x_ifE, x_eqI, x_neI, x_eqB, x_neB, x_tbm, x_never, x_make, x_meth, x_isII, x_isIC, x_bool1, decide_eq_true_eq, Bool.false_eq_true, if_false, if_true, List.append_nil, List.nil_append, List.cons_append, x_spl]
    refine ⟨by omega, fun p hp => ?_⟩
    have s1 : Same H (upd H p (.lst ((Txt.split B "/").map V.str))) := Same.new hp
    have e1 : (upd H p (.lst ((Txt.split B "/").map V.str))) p = some (.lst ((Txt.split B "/").map V.str)) := upd_same
    generalize (upd H p (.lst ((Txt.split B "/").map V.str))) = H1 at s1 e1 ⊢
    have kk := k H1 s1
    have hback := part47_back (body (tl a))
    have hBL : (body (tl a)).length ≤ a.length := by
      rw [tl_len a]
      exact body_len _
    have hBe : (B = a) ↔ neg? (tl a) = false := by
      have : (B = a) ↔ decide (B = a) = true := by simp
      rw [this, hBa]
      simp
    have fin : ∀ (n : Nat) (b : Int), (match (if neg? (tl a) = true ∧ n = 0 then none else some (sgn (tl a) n, b)) with | none => Q .non H1 | some (t, b) => ∀ (o : Addr) (H2 : Hp), TupAt H2 o t b → Same H1 H2 → Q (.ref o) H2) →
        (if B = a then 0 + 1 + 1 ≤ sizeLine ∧ ∀ (p : Addr), H1 p = none → Q (V.ref p) (upd H1 p (HO.tup [V.int ↑n, V.int b]))
          else if (n : Int) = 0 then Q V.non H1 else 0 + 1 + 1 ≤ sizeLine ∧ ∀ (p : Addr), H1 p = none → Q (V.ref p) (upd H1 p (HO.tup [V.int (-↑n), V.int b]))) := by
      intro n b kk
      cases hn : neg? (tl a) with
      | false =>
        rw [if_pos (hBe.mpr hn)]
        rw [if_neg (fun q => by rw [hn] at q; cases q.1)] at kk
        have kk : ∀ (o : Addr) (H2 : Hp), TupAt H2 o (n : Int) b → Same H1 H2 → Q (.ref o) H2 := by
          unfold sgn at kk
          rw [hn] at kk
          simpa using kk
        exact ⟨by show 2 ≤ sizeLine; decide, fun q hq => kk q _ upd_same (Same.new hq)⟩
      | true =>
        rw [if_neg (fun q => by rw [hBe.mp q] at hn; cases hn)]
        refine ite2 (fun h0 => ?_) fun h0 => ?_
        · have : n = 0 := by omega
          rw [if_pos ⟨hn, this⟩] at kk
          exact kk
        · have : ¬ n = 0 := by omega
          rw [if_neg (fun q => this q.2)] at kk
          have kk : ∀ (o : Addr) (H2 : Hp), TupAt H2 o (-(n : Int)) b → Same H1 H2 → Q (.ref o) H2 := by
            unfold sgn at kk
            rw [hn] at kk
            simpa using kk
          exact ⟨by show 2 ≤ sizeLine; decide, fun q hq => kk q _ upd_same (Same.new hq)⟩
    cases hp47 : part47 (body (tl a)) with
    | mk x o =>
      rw [hp47] at hcut hback
      cases o with
      | none =>
        obtain ⟨g, hg, hx⟩ := hcut
        dsimp only at hx hback
        rw [List.append_nil] at hback
        have lg : g.length ≤ sizeLine := by
          rw [tl_len, hx, ← hback.1]
          omega
        rw [hg] at e1
        have i0 : atI ([g].map V.str) 0 = some (.str g) := atI_0
        unfold numOf at kk
        rw [hp47] at kk
        dsimp only at kk
        simp only [x_ix e1 i0]
        refine group_of lg ?_
        rw [hx]
        simp only [x_seq, x_if, x_test, x_B, x_op, x_un, x_varS, x_var0, x_c, x_I0, x_I, x_U, x_bl, x_ret, x_next, x_eqS, x_neS, x_m0, x_m1, x_isStr, x_SM, x_addT, x_slS, x_lenS, x_strI, x_mulS, x_startT, x_findT, x_preT, x_lstT, x_ascT, x_digT, x_jn, x_js0, x_js1, x_isS, x_fmt, x_fmtS, x_divW, x_truK, x_truS, x_raiseT, x_asg, x_name, x_set0, x_setS, x_drop, x_cb, x_cons, x_nil, x_int1, x_abs1, x_max2, x_gcd, x_gsub, x_sl, x_part, x_nopart, x_int, x_call, x_lst, x_tup, x_not, x_and, x_or, x_andV, x_orV, x_notV, x_ifE, x_eqI, x_neI, x_eqB, x_neB, x_tbm, x_never, x_make, x_meth, x_isII, x_isIC, x_bool1, decide_eq_true_eq, Bool.false_eq_true, if_false, if_true, List.append_nil, List.nil_append, List.cons_append, x_lenA e1, List.length_map, List.length_cons, List.length_nil]
        rw [if_neg (by decide)]
        cases hgx : grp x with
        | none =>
          rw [hgx] at kk
          rw [if_pos (grpI_neg.mpr hgx)]
          exact kk
        | some n =>
          rw [hgx] at kk
          rw [if_neg (fun q => by rw [grpI_neg, hgx] at q; cases q), if_neg (by decide), grpI_some hgx]
          exact fin n 1 kk
      | some r =>
        dsimp only at hcut hback
        have lr : x.length + r.length ≤ sizeLine := by
          have := congrArg List.length hback.1
          rw [List.length_append, List.length_cons] at this
          omega
        unfold numOf at kk
        rw [hp47] at kk
        dsimp only at kk
        rcases hcut with ⟨g, h, hg, hx, hr⟩ | ⟨g, h, c, m, hg, hx, hr⟩
        · rw [hg] at e1
          have i0 : atI ([g, h].map V.str) 0 = some (.str g) := atI_0
          have i1 : atI ([g, h].map V.str) 1 = some (.str h) := rfl
          simp only [x_ix e1 i0]
          refine group_of (by rw [tl_len, hx]; omega) ?_
          rw [hx]
          simp only [x_seq, x_if, x_test, x_B, x_op, x_un, x_varS, x_var0, x_c, x_I0, x_I, x_U, x_bl, x_ret, x_next, x_eqS, x_neS, x_m0, x_m1, x_isStr, x_SM, x_addT, x_slS, x_lenS, x_strI, x_mulS, x_startT, x_findT, x_preT, x_lstT, x_ascT, x_digT, x_jn, x_js0, x_js1, x_isS, x_fmt, x_fmtS, x_divW, x_truK, x_truS, x_raiseT, x_asg, x_name, x_set0, x_setS, x_drop, x_cb, x_cons, x_nil, x_int1, x_abs1, x_max2, x_gcd, x_gsub, x_sl, x_part, x_nopart, x_int, x_call, x_lst, x_tup, x_not, x_and, x_or, x_andV, x_orV, x_notV, x_ifE, x_eqI, x_neI, x_eqB, x_neB, x_tbm, x_never, x_make, x_meth, x_isII, x_isIC, x_bool1, decide_eq_true_eq, Bool.false_eq_true, if_false, if_true, List.append_nil, List.nil_append, List.cons_append, x_lenA e1, List.length_map, List.length_cons, List.length_nil]
          rw [if_neg (by decide)]
          cases hgx : grp x with
          | none =>
            rw [hgx] at kk
            rw [if_pos (grpI_neg.mpr hgx)]
            exact kk
          | some n =>
            rw [hgx] at kk
            rw [if_neg (fun q => by rw [grpI_neg, hgx] at q; cases q), if_pos (by decide), grpI_some hgx]
            simp only [x_ix e1 i1]
            refine group_of (by rw [tl_len, hr]; omega) ?_
            rw [hr]
            simp only [x_seq, x_if, x_test, x_B, x_op, x_un, x_varS, x_var0, x_c, x_I0, x_I, x_U, x_bl, x_ret, x_next, x_eqS, x_neS, x_m0, x_m1, x_isStr, x_SM, x_addT, x_slS, x_lenS, x_strI, x_mulS, x_startT, x_findT, x_preT, x_lstT, x_ascT, x_digT, x_jn, x_js0, x_js1, x_isS, x_fmt, x_fmtS, x_divW, x_truK, x_truS, x_raiseT, x_asg, x_name, x_set0, x_setS, x_drop, x_cb, x_cons, x_nil, x_int1, x_abs1, x_max2, x_gcd, x_gsub, x_sl, x_part, x_nopart, x_int, x_call, x_lst, x_tup, x_not, x_and, x_or, x_andV, x_orV, x_notV, x_ifE, x_eqI, x_neI, x_eqB, x_neB, x_tbm, x_never, x_make, x_meth, x_isII, x_isIC, x_bool1, decide_eq_true_eq, Bool.false_eq_true, if_false, if_true, List.append_nil, List.nil_append, List.cons_append]
            cases hgr : grp r with
            | none =>
              rw [hgr] at kk
              have := grpI_neg.mpr hgr
              rw [if_pos (by omega)]
              exact kk
            | some q =>
              rw [hgr] at kk
              rw [grpI_some hgr]
              dsimp only at kk
              refine ite2 (fun h2 => ?_) fun h2 => ?_
              · rw [if_pos (.inl (by omega))] at kk
                exact kk
              · refine common_of ((grp_bd hgr).mono (by decide)) ?_
                simp only [x_seq, x_if, x_test, x_B, x_op, x_un, x_varS, x_var0, x_c, x_I0, x_I, x_U, x_bl, x_ret, x_next, x_eqS, x_neS, x_m0, x_m1, x_isStr, x_SM, x_addT, x_slS, x_lenS, x_strI, x_mulS, x_startT, x_findT, x_preT, x_lstT, x_ascT, x_digT, x_jn, x_js0, x_js1, x_isS, x_fmt, x_fmtS, x_divW, x_truK, x_truS, x_raiseT, x_asg, x_name, x_set0, x_setS, x_drop, x_cb, x_cons, x_nil, x_int1, x_abs1, x_max2, x_gcd, x_gsub, x_sl, x_part, x_nopart, x_int, x_call, x_lst, x_tup, x_not, x_and, x_or, x_andV, x_orV, x_notV, x_ifE, x_eqI, x_neI, x_eqB, x_neB, x_tbm, x_never, x_make, x_meth, x_isII, x_isIC, x_bool1, decide_eq_true_eq, Bool.false_eq_true, if_false, if_true, List.append_nil, List.nil_append, List.cons_append]
                rw [Int.natAbs_natCast, Int.natAbs_natCast]
                refine ite2 (fun h3 => ?_) fun h3 => ?_
                · have : n.gcd q ≠ 1 := fun e => by
                    rw [e] at h3
                    simp at h3
                  rw [if_pos (.inr this)] at kk
                  exact kk
                · have : n.gcd q = 1 := by
                    simp at h3
                    omega
                  rw [if_neg (by omega)] at kk
                  exact fin n q kk
        · rw [hg] at e1
          have i0 : atI ((g :: h :: c :: m).map V.str) 0 = some (.str g) := atI_0
          simp only [x_ix e1 i0]
          refine group_of (by rw [tl_len, hx]; omega) ?_
          simp only [x_seq, x_if, x_test, x_B, x_op, x_un, x_varS, x_var0, x_c, x_I0, x_I, x_U, x_bl, x_ret, x_next, x_eqS, x_neS, x_m0, x_m1, x_isStr, x_SM, x_addT, x_slS, x_lenS, x_strI, x_mulS, x_startT, x_findT, x_preT, x_lstT, x_ascT, x_digT, x_jn, x_js0, x_js1, x_isS, x_fmt, x_fmtS, x_divW, x_truK, x_truS, x_raiseT, x_asg, x_name, x_set0, x_setS, x_drop, x_cb, x_cons, x_nil, x_int1, x_abs1, x_max2, x_gcd, x_gsub, x_sl, x_part, x_nopart, x_int, x_call, x_lst, x_tup, x_not, x_and, x_or, x_andV, x_orV, x_notV, x_ifE, x_eqI, x_neI, x_eqB, x_neB, x_tbm, x_never, x_make, x_meth, x_isII, x_isIC, x_bool1, decide_eq_true_eq, Bool.false_eq_true, if_false, if_true, List.append_nil, List.nil_append, List.cons_append, x_lenA e1, List.length_map, List.length_cons, List.length_nil]
          rw [if_pos (by omega)]
          rw [slash_grp hr] at kk
          cases hgx : grp x with
          | none =>
            rw [hgx] at kk
            exact kk
          | some n =>
            rw [hgx] at kk
            exact kk
  unfold t_njudged
  rw [x_seq]
  simp only [x_if, x_test, x_B, x_op, x_un, x_varS, x_var0, x_c, x_I0, x_I, x_U, x_bl, x_ret, x_next, x_eqS, x_neS, x_m0, x_m1, x_isStr, x_SM, x_addT, x_slS, x_lenS, x_strI, x_mulS, x_startT, x_findT, x_preT, x_lstT, x_ascT, x_digT, x_jn, x_js0, x_js1, x_isS, x_fmt, x_fmtS, x_divW, x_truK, x_truS, x_raiseT, x_asg, x_name, x_set0, x_setS, x_drop, x_cb, x_cons, x_nil, x_int1, x_abs1, x_max2, x_gcd, x_gsub, x_sl, x_part, x_nopart, x_int, x_call, x_lst, x_tup, x_not, x_and, x_or, x_andV, x_orV, x_notV, x_ifE, x_eqI, x_neI, x_eqB, x_neB, x_tbm, x_never, x_make, x_meth, x_isII, x_isIC, x_bool1, decide_eq_true_eq, Bool.false_eq_true, if_false, if_true, List.append_nil, List.nil_append, List.cons_append]
  rw [x_seq]
  simp only [x_if, x_test, x_B, x_op, x_un, x_varS, x_var0, x_c, x_I0, x_I, x_U, x_bl, x_ret, x_next, x_eqS, x_neS, x_m0, x_m1, x_isStr, x_SM, x_addT, x_slS, x_lenS, x_strI, x_mulS, x_startT, x_findT, x_preT, x_lstT, x_ascT, x_digT, x_jn, x_js0, x_js1, x_isS, x_fmt, x_fmtS, x_divW, x_truK, x_truS, x_raiseT, x_asg, x_name, x_set0, x_setS, x_drop, x_cb, x_cons, x_nil, x_int1, x_abs1, x_max2, x_gcd, x_gsub, x_sl, x_part, x_nopart, x_int, x_call, x_lst, x_tup, x_not, x_and, x_or, x_andV, x_orV, x_notV, x_ifE, x_eqI, x_neI, x_eqB, x_neB, x_tbm, x_never, x_make, x_meth, x_isII, x_isIC, x_bool1, decide_eq_true_eq, Bool.false_eq_true, if_false, if_true, List.append_nil, List.nil_append, List.cons_append, head_minus]
  refine ⟨hz0, ite2 (fun h1 => ⟨hz0, ?_⟩) fun h1 => ?_⟩
  · refine rest _ ?_
    rw [cut1', tl_cut_from]
    unfold body
    rw [if_pos h1, List.drop_one]
  · refine rest a ?_
    unfold body
    rw [if_neg h1]
end SpX

set_option Elab.async false
set_option linter.all false
set_option maxRecDepth 100000
set_option maxHeartbeats 2000000
/-! Law k01: texts drawn. -/
namespace SpX
open PySem PySem.Spec NumText L2
open TL (tl)
/-- a text of a told length is drawn -/
def GivesS (n : Nat) (P : Addr) (H : Hp) (Q : VK) : Prop := ∀ (y : Str) (H' : Hp), y.length ≤ n → PoolAt H' P → Keep P H H' → Q (.str y) H'
theorem GivesS.after {n : Nat} {P : Addr} {H H1 : Hp} {Q : VK} (k : GivesS n P H Q) (s : Keep P H H1) : GivesS n P H1 Q := fun y H' l p q => k y H' l p (s.trans q)
def spMark : Sp := fun vs H Q _ => ∃ (P : Addr) (B : Addr → Prop), vs = [.ref P] ∧ PoolB B H P ∧ (∀ b, B b → ∃ o, H b = some o) ∧ ∀ (y : Str) (H' : Hp), y.length = 1 → PoolB B H' P → Keep P H H' → Q (.str y) H'
theorem mark_of {P : Addr} {H : Hp} {Q : VK} {E : XK} (hp : PoolAt H P) (k : GivesS 1 P H Q) : spMark [.ref P] H Q E := ⟨P, fun _ => False, rfl, hp.toB, fun _ z => z.elim, fun y H' l p q => k y H' (by omega) p.at q⟩
theorem atI_len {l : List Nat} {i : Int} (h0 : 0 ≤ i) (h1 : i < (l.length : Int)) : ∃ c, atI l i = some c := by
  obtain ⟨n, rfl⟩ := Int.eq_ofNat_of_zero_le h0
  have hn : n < l.length := by omega
  exact ⟨l[n], atI_nat (List.getElem?_eq_getElem hn)⟩
theorem one_len (c : Nat) : (⟨#[c]⟩ : Str).length = 1 := rfl
def t_nmark (P : Program) (K : PySem.W.Frag) (mg : Str → Option Value) (C Z D BN : Addr) (E : XK) : TS :=
    (tSeq (tAsg (tC (.str " !\"#$&'()*+,-./0123456789:;<=>?@ABCDEFGHIJKLMNOPQRSTUVWXYZ[\\]^_")) (gName 1))
    (tSeq (tAsg (tOp rAddT (tVar 1) (tC (.str "`abcdefghijklmnopqrstuvwxyz{|}~\n	"))) (gName 1))
    (tRet (tOp rIxS (tVar 1) (tCall spTakeB [] E0 (tCons (tVar 0) (tCons (tC (.int 96)) tNil)))))))
theorem pure_nmark {P0 : Program} {K : PySem.W.Frag} {mg : Str → Option Value} {C Z D BN : Addr} (vs : List V) (H : Hp) (Q : VK) (E : XK) (h : spMark vs H Q E) : t_nmark P0 K mg C Z D BN E { nx := fun _ H' => Q .non H', rt := Q } (start ["pool", "marks"] vs) H := by
  obtain ⟨P, B, rfl, hp, hB, k⟩ := h
  show t_nmark P0 K mg C Z D BN E _ [some (.ref P), none] H
  unfold t_nmark
  simp only [x_seq, x_if, x_test, x_B, x_op, x_un, x_varS, x_var0, x_c, x_I0, x_I, x_U, x_bl, x_ret, x_next, x_eqS, x_neS, x_m0, x_m1, x_isStr, x_SM, x_addT, x_slS, x_lenS, x_strI, x_mulS, x_startT, x_findT, x_preT, x_lstT, x_ascT, x_digT, x_jn, x_js0, x_js1, x_isS, x_fmt, x_fmtS, x_divW, x_truK, x_truS, x_raiseT, x_asg, x_name, x_set0, x_setS, x_drop, x_cb, x_cons, x_nil, x_int1, x_abs1, x_max2, x_gcd, x_gsub, x_sl, x_part, x_nopart, x_int, x_call, x_lst, x_tup, x_not, x_and, x_or, x_andV, x_orV, x_notV, x_ifE, x_eqI, x_neI, x_eqB, x_neB, x_tbm, x_never, x_make, x_meth, x_isII, x_isIC, x_bool1, decide_eq_true_eq, Bool.false_eq_true, if_false, if_true, List.append_nil, List.nil_append, List.cons_append]
  refine ⟨by decide +kernel, takeB_of (n := 31) hp hB (by decide) (.lit _ (by decide) (by decide) (by decide)) (by decide) fun r H1 hp1 k1 r0 r1 => ?_⟩
  have hl : ((tl (" !\"#$&'()*+,-./0123456789:;<=>?@ABCDEFGHIJKLMNOPQRSTUVWXYZ[\\]^_" ++ "`abcdefghijklmnopqrstuvwxyz{|}~\n	")).length : Int) = 96 := by decide +kernel
  have hs : (" !\"#$&'()*+,-./0123456789:;<=>?@ABCDEFGHIJKLMNOPQRSTUVWXYZ[\\]^_" ++ "`abcdefghijklmnopqrstuvwxyz{|}~\n	" : Str).length ≤ sizeLine := by decide +kernel
  generalize (" !\"#$&'()*+,-./0123456789:;<=>?@ABCDEFGHIJKLMNOPQRSTUVWXYZ[\\]^_" ++ "`abcdefghijklmnopqrstuvwxyz{|}~\n	" : Str) = M at hl hs ⊢
  obtain ⟨c, hc⟩ := atI_len (l := tl M) (i := r) r0 (by omega)
  simp only [x_ixS hs hc]
  exact k _ _ rfl hp1 k1
def spLong : Sp := fun vs H Q _ => ∃ P : Addr, vs = [.ref P] ∧ PoolAt H P ∧ GivesS 6000 P H Q
theorem long_of {P : Addr} {H : Hp} {Q : VK} {E : XK} (hp : PoolAt H P) (k : GivesS 6000 P H Q) : spLong [.ref P] H Q E := ⟨P, rfl, hp, k⟩
theorem x_ixL {H : Hp} {Q : VK} {p : Addr} {xs : List V} {i : Int} {v : V} (h : H p = some (.lst xs)) (ha : atI xs i = some v) : rIx1 (.ref p) (.int i) H Q = Q v H := x_ix h ha
theorem atI_in {xs : List V} {i : Int} (h0 : 0 ≤ i) (h1 : i < (xs.length : Int)) : ∃ v, v ∈ xs ∧ atI xs i = some v := by
  obtain ⟨n, rfl⟩ := Int.eq_ofNat_of_zero_le h0
  have hn : n < xs.length := by omega
  exact ⟨xs[n], List.getElem_mem hn, atI_nat (List.getElem?_eq_getElem hn)⟩
theorem add_len (x y : Str) : (x ++ y).length = x.length + y.length := by
  rw [tl_len, tl_len, tl_len, TL.tl_append, List.length_append]
theorem cut_len (x : Str) (lo hi : Option Int) : (cutS x lo hi).length ≤ x.length := cutS_length x lo hi
theorem cut_to_len (x : Str) (n : Nat) : (cutS x none (some (n : Int))).length ≤ n := by
  rw [tl_len, tl_cut_to, List.length_take]
  omega
theorem str_len {i : Int} {n : Nat} (h : (intD i).length ≤ n) : (Str.ofString (toString i)).length ≤ n := by
  rw [tl_len, tl_int]
  exact h
theorem mul_ok {a : Str} {n : Int} (h0 : 1 ≤ n) (h1 : n ≤ 10000) (h2 : a.length ≤ 20) (h3 : 1 ≤ a.length) : MulOk a n := by
  refine ⟨by simp; omega, fun _ _ => ?_, fun _ _ => ?_⟩
  · have : (20 : Int) ≤ (2 ^ 63 - 1) / n := by
      rw [Int.le_ediv_iff_mul_le (by omega)]
      omega
    omega
  · have : a.length * n.toNat ≤ 20 * 10000 := Nat.mul_le_mul h2 (by omega)
    unfold PySem.Builtin.Str.tooLong
    rw [sizeLine_eq]
    simp
    omega
theorem bd9 : Bd 31 (1000000000 : Int) := .lit _ (by decide) (by decide) (by decide)
theorem bd900 {a : Int} {n : Nat} (h : Bd n a) (l : n ≤ 900) : Bd 900 a := h.mono l
theorem intD_len2 {a : Int} {n k : Nat} (h : Bd n a) (hk : 0 < k) (l : n ≤ 3 * k) : (intD a).length ≤ k + 1 := by
  have := num_len' (n := a.natAbs) (k := k) hk (Nat.lt_of_lt_of_le h (Nat.pow_le_pow_right (by decide) l))
  unfold intD
  rw [List.length_append]
  split <;> simp <;> omega
theorem intD_ne (a : Int) : 1 ≤ (intD a).length := by
  unfold intD
  rw [List.length_append]
  have := List.length_pos_iff.mpr (num_ne a.natAbs)
  omega
def t_nlong (P : Program) (K : PySem.W.Frag) (mg : Str → Option Value) (C Z D BN : Addr) (E : XK) : TS :=
    (tSeq (tAsg (tOp rIx1 (tLst (tCons (tC (.int 59)) (tCons (tC (.int 60)) (tCons (tC (.int 61)) (tCons (tC (.int 62)) (tCons (tC (.int 70)) (tCons (tC (.int 120)) (tCons (tC (.int 500)) (tCons (tC (.int 5000)) tNil))))))))) (tCall spTakeB [] E0 (tCons (tVar 0) (tCons (tC (.int 8)) tNil)))) (gName 1))
    (tSeq (tAsg (tCB rStrI (tCons (tOp (rI0 fun i j => .int (i + j)) (tC (.int 1)) (tCall spTakeB [] E0 (tCons (tVar 0) (tCons (tOp (rI CPow fun i j => .int (i ^ j.toNat)) (tC (.int 10)) (tC (.int 9))) tNil)))) tNil)) (gName 2))
    (tSeq (tAsg (tSl rSlS (tOp rMulS (tVar 2) (tOp (rI0 fun i j => .int (i + j)) (tC (.int 1)) (tOp (rI CDivF fun i j => .int (i.fdiv j)) (tVar 1) (tCB rLenT (tCons (tVar 2) tNil))))) tNoPart (tPart (tVar 1))) (gName 3))
    (tRet (tOp rIx1 (tLst (tCons (tVar 3) (tCons (tOp rAddT (tC (.str "-")) (tVar 3)) (tCons (tOp rAddT (tVar 3) (tC (.str "/7"))) (tCons (tOp rAddT (tC (.str "7/")) (tVar 3)) tNil))))) (tCall spTakeB [] E0 (tCons (tVar 0) (tCons (tC (.int 4)) tNil))))))))
theorem pure_nlong {P0 : Program} {K : PySem.W.Frag} {mg : Str → Option Value} {C Z D BN : Addr} (vs : List V) (H : Hp) (Q : VK) (E : XK) (h : spLong vs H Q E) : t_nlong P0 K mg C Z D BN E { nx := fun _ H' => Q .non H', rt := Q } (start ["pool", "many", "block", "digits"] vs) H := by
  obtain ⟨P, rfl, hp, k⟩ := h
  show t_nlong P0 K mg C Z D BN E _ [some (.ref P), none, none, none] H
  unfold t_nlong
  simp only [x_seq, x_if, x_test, x_B, x_op, x_un, x_varS, x_var0, x_c, x_I0, x_I, x_U, x_bl, x_ret, x_next, x_eqS, x_neS, x_m0, x_m1, x_isStr, x_SM, x_addT, x_slS, x_lenS, x_strI, x_mulS, x_startT, x_findT, x_preT, x_lstT, x_ascT, x_digT, x_jn, x_js0, x_js1, x_isS, x_fmt, x_fmtS, x_divW, x_truK, x_truS, x_raiseT, x_asg, x_name, x_set0, x_setS, x_drop, x_cb, x_cons, x_nil, x_int1, x_abs1, x_max2, x_gcd, x_gsub, x_sl, x_part, x_nopart, x_int, x_call, x_lst, x_tup, x_not, x_and, x_or, x_andV, x_orV, x_notV, x_ifE, x_eqI, x_neI, x_eqB, x_neB, x_tbm, x_never, x_make, x_meth, x_isII, x_isIC, x_bool1, decide_eq_true_eq, Bool.false_eq_true, if_false, if_true, List.append_nil, List.nil_append, List.cons_append, p9]
  refine ⟨by decide, fun q hq => ?_⟩
  have s1 : Same H (upd H q (.lst [.int 59, .int 60, .int 61, .int 62, .int 70, .int 120, .int 500, .int 5000])) := Same.new hq
  have e1 : (upd H q (.lst [.int 59, .int 60, .int 61, .int 62, .int 70, .int 120, .int 500, .int 5000])) q = some (.lst [.int 59, .int 60, .int 61, .int 62, .int 70, .int 120, .int 500, .int 5000]) := upd_same
  have n1 : q ≠ P := fun e => by
    obtain ⟨_, _, _, _, _, h1⟩ := hp
    rw [e, h1.p] at hq
    cases hq
  generalize (upd H q (.lst [.int 59, .int 60, .int 61, .int 62, .int 70, .int 120, .int 500, .int 5000])) = H1 at s1 e1 ⊢
  refine take_of (n := 31) (hp.same s1) (by decide) (.lit _ (by decide) (by decide) (by decide)) (by decide) fun r H2 hp2 k2 r0 r1 => ?_
  have e2 := k2 _ _ n1 e1
  obtain ⟨v, hv, ha⟩ := atI_in (xs := [V.int 59, .int 60, .int 61, .int 62, .int 70, .int 120, .int 500, .int 5000]) r0 r1
  obtain ⟨m, rfl, m0, m1⟩ : ∃ m : Int, v = .int m ∧ 59 ≤ m ∧ m ≤ 5000 := by
    simp only [List.mem_cons, List.not_mem_nil, or_false] at hv
    rcases hv with h | h | h | h | h | h | h | h <;> exact ⟨_, h, by decide, by decide⟩
  simp only [x_seq, x_if, x_test, x_B, x_op, x_un, x_varS, x_var0, x_c, x_I0, x_I, x_U, x_bl, x_ret, x_next, x_eqS, x_neS, x_m0, x_m1, x_isStr, x_SM, x_addT, x_slS, x_lenS, x_strI, x_mulS, x_startT, x_findT, x_preT, x_lstT, x_ascT, x_digT, x_jn, x_js0, x_js1, x_isS, x_fmt, x_fmtS, x_divW, x_truK, x_truS, x_raiseT, x_asg, x_name, x_set0, x_setS, x_drop, x_cb, x_cons, x_nil, x_int1, x_abs1, x_max2, x_gcd, x_gsub, x_sl, x_part, x_nopart, x_int, x_call, x_lst, x_tup, x_not, x_and, x_or, x_andV, x_orV, x_notV, x_ifE, x_eqI, x_neI, x_eqB, x_neB, x_tbm, x_never, x_make, x_meth, x_isII, x_isIC, x_bool1, decide_eq_true_eq, Bool.false_eq_true, if_false, if_true, List.append_nil, List.nil_append, List.cons_append, x_ix e2 ha]
  refine ⟨pow_ok (by decide) (by decide) (by decide), take_of (n := 31) hp2 (by decide) bd9 (by decide) fun b H3 hp3 k3 b0 b1 => ?_⟩
  simp only [x_seq, x_if, x_test, x_B, x_op, x_un, x_varS, x_var0, x_c, x_I0, x_I, x_U, x_bl, x_ret, x_next, x_eqS, x_neS, x_m0, x_m1, x_isStr, x_SM, x_addT, x_slS, x_lenS, x_strI, x_mulS, x_startT, x_findT, x_preT, x_lstT, x_ascT, x_digT, x_jn, x_js0, x_js1, x_isS, x_fmt, x_fmtS, x_divW, x_truK, x_truS, x_raiseT, x_asg, x_name, x_set0, x_setS, x_drop, x_cb, x_cons, x_nil, x_int1, x_abs1, x_max2, x_gcd, x_gsub, x_sl, x_part, x_nopart, x_int, x_call, x_lst, x_tup, x_not, x_and, x_or, x_andV, x_orV, x_notV, x_ifE, x_eqI, x_neI, x_eqB, x_neB, x_tbm, x_never, x_make, x_meth, x_isII, x_isIC, x_bool1, decide_eq_true_eq, Bool.false_eq_true, if_false, if_true, List.append_nil, List.nil_append, List.cons_append]
  have bb : Bd 31 (1 + b) := .lit _ (by omega) (by omega) (by decide)
  have l1 : (Str.ofString (toString (1 + b))).length ≤ 12 := str_len (intD_len2 (k := 11) bb (by decide) (by decide))
  have l2 : 1 ≤ (Str.ofString (toString (1 + b))).length := by
    rw [tl_len, tl_int]
    exact intD_ne _
  refine ⟨log1920 (bb.mono (by decide)), sl5 (by omega), any_div (by omega) (Bd.lit (n := 8000) _ (by omega) (by omega) (by decide)), ?_⟩
  generalize (Str.ofString (toString (1 + b))) = B at l1 l2 ⊢
  have hd0 : 0 ≤ m.fdiv (B.length : Int) := Int.fdiv_nonneg (by omega) (by omega)
  have hd1 : m.fdiv (B.length : Int) ≤ 5000 := by
    have := Int.natAbs_fdiv_le_natAbs m (B.length : Int)
    omega
  refine ⟨mul_ok (by omega) (by omega) (by omega) l2, ?_⟩
  have hm : (Txt.mul B (1 + m.fdiv (B.length : Int))).length ≤ 12 * 5001 := PyProof.Rows.len_mul_leN l1 (by omega)
  generalize (Txt.mul B (1 + m.fdiv (B.length : Int))) = M at hm ⊢
  refine ⟨Nat.le_trans hm (by decide), ?_⟩
  obtain ⟨mn, rfl⟩ := Int.eq_ofNat_of_zero_le (show 0 ≤ m by omega)
  have hc := cut_to_len M mn
  have hcs : (cutS M none (some (Int.ofNat mn))).length ≤ mn := hc
  generalize (cutS M none (some ((mn : Nat) : Int))) = G at hc ⊢
  have hG : G.length ≤ 5000 := by omega
  have l_m : ("-" : Str).length = 1 := by decide +kernel
  have l_7 : ("/7" : Str).length = 2 := by decide +kernel
  have l_8 : ("7/" : Str).length = 2 := by decide +kernel
  have big : ∀ n : Nat, n ≤ 6000 → n ≤ sizeLine := fun n hn => Nat.le_trans hn (by decide)
  refine ⟨big _ (by omega), big _ (by omega), big _ (by omega), by show 4 ≤ sizeLine; decide, fun p hpn => ?_⟩
  have s4 : Same H3 (upd H3 p (.lst [.str G, .str ("-" ++ G), .str (G ++ "/7"), .str ("7/" ++ G)])) := Same.new hpn
  have e4 : (upd H3 p (.lst [.str G, .str ("-" ++ G), .str (G ++ "/7"), .str ("7/" ++ G)])) p = some (.lst [.str G, .str ("-" ++ G), .str (G ++ "/7"), .str ("7/" ++ G)]) := upd_same
  have n4 : p ≠ P := fun e => by
    obtain ⟨_, _, _, _, _, h1⟩ := hp3
    rw [e, h1.p] at hpn
    cases hpn
  generalize (upd H3 p (.lst [.str G, .str ("-" ++ G), .str (G ++ "/7"), .str ("7/" ++ G)])) = H4 at s4 e4 ⊢
  refine take_of (n := 31) (hp3.same s4) (by decide) (.lit _ (by decide) (by decide) (by decide)) (by decide) fun w H5 hp5 k5 w0 w1 => ?_
  have e5 := k5 _ _ n4 e4
  obtain ⟨v, hv, ha⟩ := atI_in (xs := [V.str G, .str ("-" ++ G), .str (G ++ "/7"), .str ("7/" ++ G)]) w0 w1
  simp only [x_ix e5 ha]
  have kp : Keep P H H5 := (((Keep.of s1).trans k2).trans k3).trans ((Keep.of s4).trans k5)
  simp only [List.mem_cons, List.not_mem_nil, or_false] at hv
  rcases hv with h | h | h | h <;> subst h <;> refine k _ _ ?_ hp5 kp
  · omega
  · rw [add_len]
    omega
  · rw [add_len]
    omega
  · rw [add_len]
    omega
theorem x_intB {b : Bool} {H : Hp} {Q : VK} : rInt1 [.bl b] H Q = Q (.int (if b then 1 else 0)) H := by
  unfold rInt1
  simp
theorem written_len {t b : Int} (ht : Bd 900 t) (hb : Bd 900 b) : (written t b).length ≤ 602 := by
  have l1 := intD_len ht
  have l2 := num_len' (n := b.natAbs) (k := 300) (by decide) hb
  by_cases h : b = 1
  · rw [h, written_1]
    omega
  · rw [written_n h, List.length_append, List.length_cons]
    omega
theorem written_of {o : Addr} {t b : Int} {H : Hp} {Q : VK} {E : XK} (ho : TupAt H o t b) (hb : 0 < b) (bt : Bd 900 t) (bb : Bd 900 b) (k : ∀ y : Str, tl y = written t b → Q (.str y) H) : spWritten [.ref o] H Q E := ⟨o, t, b, rfl, ho, hb, bt, bb, k⟩
def spSpoilt : Sp := fun vs H Q _ => ∃ (P o : Addr) (t b : Int), vs = [.ref P, .ref o] ∧ PoolAt H P ∧ TupAt H o t b ∧ Num60 t b ∧ GivesS 3000 P H Q
theorem pool_ne {P q : Addr} {H : Hp} (hp : PoolAt H P) (hq : H q = none) : q ≠ P := fun e => by
  obtain ⟨_, _, _, _, _, h1⟩ := hp
  rw [e, h1.p] at hq
  cases hq
/-- an item of a new list of short texts, drawn -/
theorem item_of {P q : Addr} {xs : List V} {n : Nat} {most : Int} {H : Hp} {Q : VK} (hp : PoolAt H P) (hq : H q = none) (hx : ∀ v ∈ xs, ∃ y : Str, v = .str y ∧ y.length ≤ n) (hm : most = xs.length) (h2 : 2 ≤ most) (hs : most < 1000)
    (k : ∀ (y : Str) (H' : Hp), y.length ≤ n → PoolAt H' P → Keep P H H' → Q (.str y) H') : spTakeB [.ref P, .int most] (upd H q (.lst xs)) (fun i H1 => rIx1 (.ref q) i H1 Q) E0 := by
  have n1 := pool_ne hp hq
  have s1 : Same H (upd H q (.lst xs)) := Same.new hq
  have e1 : (upd H q (.lst xs)) q = some (.lst xs) := upd_same
  refine take_of (n := 31) (hp.same s1) h2 (.lit _ (by omega) (by omega) (by decide)) (by decide) fun r H2 hp2 k2 r0 r1 => ?_
  have e2 := k2 _ _ n1 e1
  obtain ⟨v, hv, ha⟩ := atI_in (xs := xs) r0 (by omega)
  rw [x_ix e2 ha]
  obtain ⟨y, rfl, hy⟩ := hx v hv
  exact k y H2 hy hp2 ((Keep.of s1).trans k2)
theorem T_take {P : Addr} {H : Hp} {Q : VK} {E : XK} (T : Str) (hp : PoolAt H P) (l : T.length ≤ 602) (k : ∀ (r : Int) (H' : Hp), PoolAt H' P → Keep P H H' → Q (.int r) H') : spTakeB [.ref P, .int ((T.length : Int) + 1)] H Q E :=
  ⟨P, _, fun _ => False, rfl, hp.toB, fun _ z => z.elim, Bd.lit (n := 8000) _ (by omega) (by omega) (by decide), fun r H' a b _ _ _ => k r H' a.at b⟩
def t_nspoilt_3 (P : Program) (K : PySem.W.Frag) (mg : Str → Option Value) (C Z D BN : Addr) (E : XK) : TS :=
    (tSeq (tIfS (tTest (tOp rEq (tVar 3) (tC (.int 0)))) (tRet (tOp rAddT (tOp rAddT (tSl rSlS (tVar 2) tNoPart (tPart (tVar 4))) (tCall spMark [] E0 (tCons (tVar 0) tNil))) (tSl rSlS (tVar 2) (tPart (tVar 4)) tNoPart))) tNext)
    (tSeq (tIfS (tTest (tOp rEq (tVar 3) (tC (.int 1)))) (tRet (tOp rAddT (tSl rSlS (tVar 2) tNoPart (tPart (tVar 4))) (tSl rSlS (tVar 2) (tPart (tOp (rI0 fun i j => .int (i + j)) (tVar 4) (tC (.int 1)))) tNoPart))) tNext)
    (tSeq (tIfS (tTest (tOp rEq (tVar 3) (tC (.int 2)))) (tRet (tOp rAddT (tOp rAddT (tSl rSlS (tVar 2) tNoPart (tPart (tVar 4))) (tCall spMark [] E0 (tCons (tVar 0) tNil))) (tSl rSlS (tVar 2) (tPart (tOp (rI0 fun i j => .int (i + j)) (tVar 4) (tC (.int 1)))) tNoPart))) tNext)
    (tSeq (tIfS (tOr (tTest (tOp rEq (tVar 3) (tC (.int 3)))) (tTest (tOp rEq (tVar 3) (tC (.int 4))))) (tSeq (tAsg (tCB rInt1 (tCons (tOp (rI0 fun i j => .bl (decide (i < j))) (tOp rIx1 (tVar 1) (tC (.int 0))) (tC (.int 0))) tNil)) (gName 5))
    (tSeq (tIfS (tAnd (tTest (tOp rEq (tVar 3) (tC (.int 4)))) (tTest (tOp rNe (tOp rIx1 (tVar 1) (tC (.int 1))) (tC (.int 1))))) (tAsg (tOp (rI0 fun i j => .int (i + j)) (tM1 rFindT (tVar 2) (tC (.str "/"))) (tC (.int 1))) (gName 5)) tNext)
    (tRet (tOp rAddT (tOp rAddT (tSl rSlS (tVar 2) tNoPart (tPart (tVar 5))) (tC (.str "0"))) (tSl rSlS (tVar 2) (tPart (tVar 5)) tNoPart))))) tNext)
    (tSeq (tIfS (tTest (tOp rEq (tVar 3) (tC (.int 5)))) (tRet (tOp rAddT (tVar 2) (tOp rIx1 (tLst (tCons (tC (.str "/")) (tCons (tC (.str "/0")) (tCons (tC (.str "/1")) (tCons (tC (.str "/2")) (tCons (tC (.str "/-2")) (tCons (tOp rAddT (tC (.str "/")) (tVar 2)) tNil))))))) (tCall spTakeB [] E0 (tCons (tVar 0) (tCons (tC (.int 6)) tNil)))))) tNext)
    (tSeq (tIfS (tTest (tOp rEq (tVar 3) (tC (.int 6)))) (tRet (tOp rAddT (tOp rIx1 (tLst (tCons (tC (.str "+")) (tCons (tC (.str "-")) (tCons (tC (.str " ")) (tCons (tC (.str "0")) (tCons (tC (.str "	")) tNil)))))) (tCall spTakeB [] E0 (tCons (tVar 0) (tCons (tC (.int 5)) tNil)))) (tVar 2))) tNext)
    (tSeq (tIfS (tTest (tOp rEq (tVar 3) (tC (.int 7)))) (tRet (tOp rAddT (tVar 2) (tOp rIx1 (tLst (tCons (tC (.str " ")) (tCons (tC (.str "\n")) (tCons (tC (.str "	")) (tCons (tC (.str ".0")) (tCons (tC (.str "e1")) (tCons (tC (.str "_0")) tNil))))))) (tCall spTakeB [] E0 (tCons (tVar 0) (tCons (tC (.int 6)) tNil)))))) tNext)
    (tSeq (tIfS (tTest (tOp rEq (tVar 3) (tC (.int 8)))) (tSeq (tAsg (tOp (rI0 fun i j => .int (i + j)) (tC (.int 2)) (tCall spTakeB [] E0 (tCons (tVar 0) (tCons (tC (.int 8)) tNil)))) (gName 6))
    (tRet (tOp rAddT (tOp rAddT (tCB rStrI (tCons (tOp (rI IntMulOk fun i j => .int (i * j)) (tOp rIx1 (tVar 1) (tC (.int 0))) (tVar 6)) tNil)) (tC (.str "/"))) (tCB rStrI (tCons (tOp (rI IntMulOk fun i j => .int (i * j)) (tOp rIx1 (tVar 1) (tC (.int 1))) (tVar 6)) tNil))))) tNext)
    (tRet (tVar 2))))))))))
def t_nspoilt (P : Program) (K : PySem.W.Frag) (mg : Str → Option Value) (C Z D BN : Addr) (E : XK) : TS :=
    (tSeq (tAsg (tCall spWritten [] E0 (tCons (tVar 1) tNil)) (gName 2))
    (tSeq (tAsg (tCall spTakeB [] E0 (tCons (tVar 0) (tCons (tC (.int 10)) tNil))) (gName 3))
    (tSeq (tAsg (tCall spTakeB [] E0 (tCons (tVar 0) (tCons (tOp (rI0 fun i j => .int (i + j)) (tCB rLenT (tCons (tVar 2) tNil)) (tC (.int 1))) tNil))) (gName 4))
    (tSeq (tIfS (tTest (tOp rEq (tVar 3) (tC (.int 0)))) (tRet (tOp rAddT (tOp rAddT (tSl rSlS (tVar 2) tNoPart (tPart (tVar 4))) (tCall spMark [] E0 (tCons (tVar 0) tNil))) (tSl rSlS (tVar 2) (tPart (tVar 4)) tNoPart))) tNext)
    (tSeq (tIfS (tTest (tOp rEq (tVar 3) (tC (.int 1)))) (tRet (tOp rAddT (tSl rSlS (tVar 2) tNoPart (tPart (tVar 4))) (tSl rSlS (tVar 2) (tPart (tOp (rI0 fun i j => .int (i + j)) (tVar 4) (tC (.int 1)))) tNoPart))) tNext)
    (tSeq (tIfS (tTest (tOp rEq (tVar 3) (tC (.int 2)))) (tRet (tOp rAddT (tOp rAddT (tSl rSlS (tVar 2) tNoPart (tPart (tVar 4))) (tCall spMark [] E0 (tCons (tVar 0) tNil))) (tSl rSlS (tVar 2) (tPart (tOp (rI0 fun i j => .int (i + j)) (tVar 4) (tC (.int 1)))) tNoPart))) tNext)
    (tSeq (tIfS (tOr (tTest (tOp rEq (tVar 3) (tC (.int 3)))) (tTest (tOp rEq (tVar 3) (tC (.int 4))))) (tSeq (tAsg (tCB rInt1 (tCons (tOp (rI0 fun i j => .bl (decide (i < j))) (tOp rIx1 (tVar 1) (tC (.int 0))) (tC (.int 0))) tNil)) (gName 5))
    (tSeq (tIfS (tAnd (tTest (tOp rEq (tVar 3) (tC (.int 4)))) (tTest (tOp rNe (tOp rIx1 (tVar 1) (tC (.int 1))) (tC (.int 1))))) (tAsg (tOp (rI0 fun i j => .int (i + j)) (tM1 rFindT (tVar 2) (tC (.str "/"))) (tC (.int 1))) (gName 5)) tNext)
    (tRet (tOp rAddT (tOp rAddT (tSl rSlS (tVar 2) tNoPart (tPart (tVar 5))) (tC (.str "0"))) (tSl rSlS (tVar 2) (tPart (tVar 5)) tNoPart))))) tNext)
    (tSeq (tIfS (tTest (tOp rEq (tVar 3) (tC (.int 5)))) (tRet (tOp rAddT (tVar 2) (tOp rIx1 (tLst (tCons (tC (.str "/")) (tCons (tC (.str "/0")) (tCons (tC (.str "/1")) (tCons (tC (.str "/2")) (tCons (tC (.str "/-2")) (tCons (tOp rAddT (tC (.str "/")) (tVar 2)) tNil))))))) (tCall spTakeB [] E0 (tCons (tVar 0) (tCons (tC (.int 6)) tNil)))))) tNext)
    (tSeq (tIfS (tTest (tOp rEq (tVar 3) (tC (.int 6)))) (tRet (tOp rAddT (tOp rIx1 (tLst (tCons (tC (.str "+")) (tCons (tC (.str "-")) (tCons (tC (.str " ")) (tCons (tC (.str "0")) (tCons (tC (.str "	")) tNil)))))) (tCall spTakeB [] E0 (tCons (tVar 0) (tCons (tC (.int 5)) tNil)))) (tVar 2))) tNext)
    (tSeq (tIfS (tTest (tOp rEq (tVar 3) (tC (.int 7)))) (tRet (tOp rAddT (tVar 2) (tOp rIx1 (tLst (tCons (tC (.str " ")) (tCons (tC (.str "\n")) (tCons (tC (.str "	")) (tCons (tC (.str ".0")) (tCons (tC (.str "e1")) (tCons (tC (.str "_0")) tNil))))))) (tCall spTakeB [] E0 (tCons (tVar 0) (tCons (tC (.int 6)) tNil)))))) tNext)
    (tSeq (tIfS (tTest (tOp rEq (tVar 3) (tC (.int 8)))) (tSeq (tAsg (tOp (rI0 fun i j => .int (i + j)) (tC (.int 2)) (tCall spTakeB [] E0 (tCons (tVar 0) (tCons (tC (.int 8)) tNil)))) (gName 6))
    (tRet (tOp rAddT (tOp rAddT (tCB rStrI (tCons (tOp (rI IntMulOk fun i j => .int (i * j)) (tOp rIx1 (tVar 1) (tC (.int 0))) (tVar 6)) tNil)) (tC (.str "/"))) (tCB rStrI (tCons (tOp (rI IntMulOk fun i j => .int (i * j)) (tOp rIx1 (tVar 1) (tC (.int 1))) (tVar 6)) tNil))))) tNext)
    (tRet (tVar 2)))))))))))))
theorem pure_nspoilt {P0 : Program} {K : PySem.W.Frag} {mg : Str → Option Value} {C Z D BN : Addr} (vs : List V) (H : Hp) (Q : VK) (E : XK) (h : spSpoilt vs H Q E) : t_nspoilt P0 K mg C Z D BN E { nx := fun _ H' => Q .non H', rt := Q } (start ["pool", "pair", "text", "way", "at", "start", "factor"] vs) H := by
  obtain ⟨P, o, t, b, rfl, hp, ho, hn, k⟩ := h
  show t_nspoilt P0 K mg C Z D BN E _ [some (.ref P), some (.ref o), none, none, none, none, none] H
  have bt : Bd 200 t := bd60 hn.t
  have bb : Bd 200 b := bd60 hn.b
  unfold t_nspoilt
  rw [x_seq]
  simp only [x_if, x_test, x_B, x_op, x_un, x_varS, x_var0, x_c, x_I0, x_I, x_U, x_bl, x_ret, x_next, x_eqS, x_neS, x_m0, x_m1, x_isStr, x_SM, x_addT, x_slS, x_lenS, x_strI, x_mulS, x_startT, x_findT, x_preT, x_lstT, x_ascT, x_digT, x_jn, x_js0, x_js1, x_isS, x_fmt, x_fmtS, x_divW, x_truK, x_truS, x_raiseT, x_asg, x_name, x_set0, x_setS, x_drop, x_cb, x_cons, x_nil, x_int1, x_abs1, x_max2, x_gcd, x_gsub, x_sl, x_part, x_nopart, x_int, x_call, x_lst, x_tup, x_not, x_and, x_or, x_andV, x_orV, x_notV, x_ifE, x_eqI, x_neI, x_eqB, x_neB, x_tbm, x_never, x_make, x_meth, x_isII, x_isIC, x_bool1, decide_eq_true_eq, Bool.false_eq_true, if_false, if_true, List.append_nil, List.nil_append, List.cons_append]
  refine written_of ho hn.pos (bt.mono (by decide)) (bb.mono (by decide)) fun T hT => ?_
  have lT : T.length ≤ 602 := by
    rw [tl_len, hT]
    exact written_len (bt.mono (by decide)) (bb.mono (by decide))
  clear hT
  try dsimp only
  rw [x_seq]
  simp only [x_if, x_test, x_B, x_op, x_un, x_varS, x_var0, x_c, x_I0, x_I, x_U, x_bl, x_ret, x_next, x_eqS, x_neS, x_m0, x_m1, x_isStr, x_SM, x_addT, x_slS, x_lenS, x_strI, x_mulS, x_startT, x_findT, x_preT, x_lstT, x_ascT, x_digT, x_jn, x_js0, x_js1, x_isS, x_fmt, x_fmtS, x_divW, x_truK, x_truS, x_raiseT, x_asg, x_name, x_set0, x_setS, x_drop, x_cb, x_cons, x_nil, x_int1, x_abs1, x_max2, x_gcd, x_gsub, x_sl, x_part, x_nopart, x_int, x_call, x_lst, x_tup, x_not, x_and, x_or, x_andV, x_orV, x_notV, x_ifE, x_eqI, x_neI, x_eqB, x_neB, x_tbm, x_never, x_make, x_meth, x_isII, x_isIC, x_bool1, decide_eq_true_eq, Bool.false_eq_true, if_false, if_true, List.append_nil, List.nil_append, List.cons_append]
  refine take_of (n := 31) hp (by decide) (.lit _ (by decide) (by decide) (by decide)) (by decide) fun way H1 hp1 k1 _ _ => ?_
  have ho := ho.keep hp k1
  rw [x_seq]
  simp only [x_if, x_test, x_B, x_op, x_un, x_varS, x_var0, x_c, x_I0, x_I, x_U, x_bl, x_ret, x_next, x_eqS, x_neS, x_m0, x_m1, x_isStr, x_SM, x_addT, x_slS, x_lenS, x_strI, x_mulS, x_startT, x_findT, x_preT, x_lstT, x_ascT, x_digT, x_jn, x_js0, x_js1, x_isS, x_fmt, x_fmtS, x_divW, x_truK, x_truS, x_raiseT, x_asg, x_name, x_set0, x_setS, x_drop, x_cb, x_cons, x_nil, x_int1, x_abs1, x_max2, x_gcd, x_gsub, x_sl, x_part, x_nopart, x_int, x_call, x_lst, x_tup, x_not, x_and, x_or, x_andV, x_orV, x_notV, x_ifE, x_eqI, x_neI, x_eqB, x_neB, x_tbm, x_never, x_make, x_meth, x_isII, x_isIC, x_bool1, decide_eq_true_eq, Bool.false_eq_true, if_false, if_true, List.append_nil, List.nil_append, List.cons_append]
  have big : ∀ n : Nat, n ≤ 6000 → n ≤ sizeLine := fun n hn => Nat.le_trans hn (by decide)
  refine ⟨big _ (by omega), T_take T hp1 lT fun at0' H2 hp2 k2 => ?_⟩
  have ho := ho.keep hp1 k2
  have k := k.after (k1.trans k2)
  show t_nspoilt_3 P0 K mg C Z D BN E _ [some (.ref P), some (.ref o), some (.str T), some (.int way), some (.int at0'), none, none] H2
  clear hp hp1 k1 k2
  have cl := cut_len T
  have l1 : ∀ s : Str, s.length ≤ 1 → s.length ≤ 1 := fun _ h => h
  unfold t_nspoilt_3
  simp only [x_seq, x_if, x_test, x_B, x_op, x_un, x_varS, x_var0, x_c, x_I0, x_I, x_U, x_bl, x_ret, x_next, x_eqS, x_neS, x_m0, x_m1, x_isStr, x_SM, x_addT, x_slS, x_lenS, x_strI, x_mulS, x_startT, x_findT, x_preT, x_lstT, x_ascT, x_digT, x_jn, x_js0, x_js1, x_isS, x_fmt, x_fmtS, x_divW, x_truK, x_truS, x_raiseT, x_asg, x_name, x_set0, x_setS, x_drop, x_cb, x_cons, x_nil, x_int1, x_abs1, x_max2, x_gcd, x_gsub, x_sl, x_part, x_nopart, x_int, x_call, x_lst, x_tup, x_not, x_and, x_or, x_andV, x_orV, x_notV, x_ifE, x_eqI, x_neI, x_eqB, x_neB, x_tbm, x_never, x_make, x_meth, x_isII, x_isIC, x_bool1, decide_eq_true_eq, Bool.false_eq_true, if_false, if_true, List.append_nil, List.nil_append, List.cons_append]
  refine ite2 (fun _ => ?_) fun _ => ite2 (fun _ => ?_) fun _ => ite2 (fun _ => ?_) fun _ => ?_
  · refine ⟨big _ (by omega), mark_of hp2 fun M H3 lM hp3 k3 => ?_⟩
    have c1 := cl none (some at0')
    have c2 := cl (some at0') none
    simp only [x_seq, x_if, x_test, x_B, x_op, x_un, x_varS, x_var0, x_c, x_I0, x_I, x_U, x_bl, x_ret, x_next, x_eqS, x_neS, x_m0, x_m1, x_isStr, x_SM, x_addT, x_slS, x_lenS, x_strI, x_mulS, x_startT, x_findT, x_preT, x_lstT, x_ascT, x_digT, x_jn, x_js0, x_js1, x_isS, x_fmt, x_fmtS, x_divW, x_truK, x_truS, x_raiseT, x_asg, x_name, x_set0, x_setS, x_drop, x_cb, x_cons, x_nil, x_int1, x_abs1, x_max2, x_gcd, x_gsub, x_sl, x_part, x_nopart, x_int, x_call, x_lst, x_tup, x_not, x_and, x_or, x_andV, x_orV, x_notV, x_ifE, x_eqI, x_neI, x_eqB, x_neB, x_tbm, x_never, x_make, x_meth, x_isII, x_isIC, x_bool1, decide_eq_true_eq, Bool.false_eq_true, if_false, if_true, List.append_nil, List.nil_append, List.cons_append]
    generalize cutS T none (some at0') = A at c1 ⊢
    generalize cutS T (some at0') none = B at c2 ⊢
    exact ⟨big _ (by omega), big _ (by omega), big _ (by rw [add_len]; omega), k _ _ (by rw [add_len, add_len]; omega) hp3 k3⟩
  · have c1 := cl none (some at0')
    have c2 := cl (some (at0' + 1)) none
    generalize cutS T none (some at0') = A at c1 ⊢
    generalize cutS T (some (at0' + 1)) none = B at c2 ⊢
    exact ⟨big _ (by omega), big _ (by omega), big _ (by omega), k _ _ (by rw [add_len]; omega) hp2 (Keep.refl _ _)⟩
  · refine ⟨big _ (by omega), mark_of hp2 fun M H3 lM hp3 k3 => ?_⟩
    have c1 := cl none (some at0')
    have c2 := cl (some (at0' + 1)) none
    simp only [x_seq, x_if, x_test, x_B, x_op, x_un, x_varS, x_var0, x_c, x_I0, x_I, x_U, x_bl, x_ret, x_next, x_eqS, x_neS, x_m0, x_m1, x_isStr, x_SM, x_addT, x_slS, x_lenS, x_strI, x_mulS, x_startT, x_findT, x_preT, x_lstT, x_ascT, x_digT, x_jn, x_js0, x_js1, x_isS, x_fmt, x_fmtS, x_divW, x_truK, x_truS, x_raiseT, x_asg, x_name, x_set0, x_setS, x_drop, x_cb, x_cons, x_nil, x_int1, x_abs1, x_max2, x_gcd, x_gsub, x_sl, x_part, x_nopart, x_int, x_call, x_lst, x_tup, x_not, x_and, x_or, x_andV, x_orV, x_notV, x_ifE, x_eqI, x_neI, x_eqB, x_neB, x_tbm, x_never, x_make, x_meth, x_isII, x_isIC, x_bool1, decide_eq_true_eq, Bool.false_eq_true, if_false, if_true, List.append_nil, List.nil_append, List.cons_append]
    generalize cutS T none (some at0') = A at c1 ⊢
    generalize cutS T (some (at0' + 1)) none = B at c2 ⊢
    exact ⟨big _ (by omega), big _ (by omega), big _ (by rw [add_len]; omega), k _ _ (by rw [add_len, add_len]; omega) hp3 k3⟩
  have l_0 : ("0" : Str).length = 1 := by decide +kernel
  have l_s : ("/" : Str).length = 1 := by decide +kernel
  have mid : ∀ i : Int, T.length ≤ sizeLine ∧ (cutS T none (some i)).length + ("0" : Str).length ≤ sizeLine ∧ T.length ≤ sizeLine ∧ (cutS T none (some i) ++ "0").length + (cutS T (some i) none).length ≤ sizeLine ∧ Q (.str (cutS T none (some i) ++ "0" ++ cutS T (some i) none)) H2 := by
    intro i
    have c1 := cl none (some i)
    have c2 := cl (some i) none
    generalize cutS T none (some i) = A at c1 ⊢
    generalize cutS T (some i) none = B at c2 ⊢
    exact ⟨big _ (by omega), big _ (by omega), big _ (by omega), big _ (by rw [add_len]; omega), k _ _ (by rw [add_len, add_len]; omega) hp2 (Keep.refl _ _)⟩
  simp only [x_seq, x_if, x_test, x_B, x_op, x_un, x_varS, x_var0, x_c, x_I0, x_I, x_U, x_bl, x_ret, x_next, x_eqS, x_neS, x_m0, x_m1, x_isStr, x_SM, x_addT, x_slS, x_lenS, x_strI, x_mulS, x_startT, x_findT, x_preT, x_lstT, x_ascT, x_digT, x_jn, x_js0, x_js1, x_isS, x_fmt, x_fmtS, x_divW, x_truK, x_truS, x_raiseT, x_asg, x_name, x_set0, x_setS, x_drop, x_cb, x_cons, x_nil, x_int1, x_abs1, x_max2, x_gcd, x_gsub, x_sl, x_part, x_nopart, x_int, x_call, x_lst, x_tup, x_not, x_and, x_or, x_andV, x_orV, x_notV, x_ifE, x_eqI, x_neI, x_eqB, x_neB, x_tbm, x_never, x_make, x_meth, x_isII, x_isIC, x_bool1, decide_eq_true_eq, Bool.false_eq_true, if_false, if_true, List.append_nil, List.nil_append, List.cons_append, x_ixT ho at0, x_ixT ho at1, x_intB]
  refine ite2 (fun _ => ite2 (fun _ => ite2 (fun _ => mid _) fun _ => mid _) fun _ => mid _) fun _ => ite2 (fun _ => ite2 (fun _ => ite2 (fun _ => mid _) fun _ => mid _) fun _ => mid _) fun _ => ?_
  refine ite2 (fun _ => ?_) fun _ => ite2 (fun _ => ?_) fun _ => ite2 (fun _ => ?_) fun _ => ite2 (fun _ => ?_) fun _ => k _ _ (by omega) hp2 (Keep.refl _ _)
  · refine ⟨big _ (by omega), by show 6 ≤ sizeLine; decide, fun p hpn => item_of (n := 700) hp2 hpn ?_ rfl (by decide) (by decide) fun y H3 ly hp3 k3 => ?_⟩
    · intro v hv
      simp only [List.mem_cons, List.not_mem_nil, or_false] at hv
      rcases hv with h | h | h | h | h | h <;> subst h
      · exact ⟨_, rfl, by decide +kernel⟩
      · exact ⟨_, rfl, by decide +kernel⟩
      · exact ⟨_, rfl, by decide +kernel⟩
      · exact ⟨_, rfl, by decide +kernel⟩
      · exact ⟨_, rfl, by decide +kernel⟩
      · exact ⟨_, rfl, by rw [add_len]; omega⟩
    · simp only [x_seq, x_if, x_test, x_B, x_op, x_un, x_varS, x_var0, x_c, x_I0, x_I, x_U, x_bl, x_ret, x_next, x_eqS, x_neS, x_m0, x_m1, x_isStr, x_SM, x_addT, x_slS, x_lenS, x_strI, x_mulS, x_startT, x_findT, x_preT, x_lstT, x_ascT, x_digT, x_jn, x_js0, x_js1, x_isS, x_fmt, x_fmtS, x_divW, x_truK, x_truS, x_raiseT, x_asg, x_name, x_set0, x_setS, x_drop, x_cb, x_cons, x_nil, x_int1, x_abs1, x_max2, x_gcd, x_gsub, x_sl, x_part, x_nopart, x_int, x_call, x_lst, x_tup, x_not, x_and, x_or, x_andV, x_orV, x_notV, x_ifE, x_eqI, x_neI, x_eqB, x_neB, x_tbm, x_never, x_make, x_meth, x_isII, x_isIC, x_bool1, decide_eq_true_eq, Bool.false_eq_true, if_false, if_true, List.append_nil, List.nil_append, List.cons_append]
      exact ⟨big _ (by omega), k _ _ (by rw [add_len]; omega) hp3 k3⟩
  · refine ⟨by show 5 ≤ sizeLine; decide, fun p hpn => item_of (n := 700) hp2 hpn ?_ rfl (by decide) (by decide) fun y H3 ly hp3 k3 => ?_⟩
    · intro v hv
      simp only [List.mem_cons, List.not_mem_nil, or_false] at hv
      rcases hv with h | h | h | h | h <;> subst h <;> exact ⟨_, rfl, by decide +kernel⟩
    · simp only [x_seq, x_if, x_test, x_B, x_op, x_un, x_varS, x_var0, x_c, x_I0, x_I, x_U, x_bl, x_ret, x_next, x_eqS, x_neS, x_m0, x_m1, x_isStr, x_SM, x_addT, x_slS, x_lenS, x_strI, x_mulS, x_startT, x_findT, x_preT, x_lstT, x_ascT, x_digT, x_jn, x_js0, x_js1, x_isS, x_fmt, x_fmtS, x_divW, x_truK, x_truS, x_raiseT, x_asg, x_name, x_set0, x_setS, x_drop, x_cb, x_cons, x_nil, x_int1, x_abs1, x_max2, x_gcd, x_gsub, x_sl, x_part, x_nopart, x_int, x_call, x_lst, x_tup, x_not, x_and, x_or, x_andV, x_orV, x_notV, x_ifE, x_eqI, x_neI, x_eqB, x_neB, x_tbm, x_never, x_make, x_meth, x_isII, x_isIC, x_bool1, decide_eq_true_eq, Bool.false_eq_true, if_false, if_true, List.append_nil, List.nil_append, List.cons_append]
      exact ⟨big _ (by omega), k _ _ (by rw [add_len]; omega) hp3 k3⟩
  · refine ⟨by show 6 ≤ sizeLine; decide, fun p hpn => item_of (n := 700) hp2 hpn ?_ rfl (by decide) (by decide) fun y H3 ly hp3 k3 => ?_⟩
    · intro v hv
      simp only [List.mem_cons, List.not_mem_nil, or_false] at hv
      rcases hv with h | h | h | h | h | h <;> subst h <;> exact ⟨_, rfl, by decide +kernel⟩
    · simp only [x_seq, x_if, x_test, x_B, x_op, x_un, x_varS, x_var0, x_c, x_I0, x_I, x_U, x_bl, x_ret, x_next, x_eqS, x_neS, x_m0, x_m1, x_isStr, x_SM, x_addT, x_slS, x_lenS, x_strI, x_mulS, x_startT, x_findT, x_preT, x_lstT, x_ascT, x_digT, x_jn, x_js0, x_js1, x_isS, x_fmt, x_fmtS, x_divW, x_truK, x_truS, x_raiseT, x_asg, x_name, x_set0, x_setS, x_drop, x_cb, x_cons, x_nil, x_int1, x_abs1, x_max2, x_gcd, x_gsub, x_sl, x_part, x_nopart, x_int, x_call, x_lst, x_tup, x_not, x_and, x_or, x_andV, x_orV, x_notV, x_ifE, x_eqI, x_neI, x_eqB, x_neB, x_tbm, x_never, x_make, x_meth, x_isII, x_isIC, x_bool1, decide_eq_true_eq, Bool.false_eq_true, if_false, if_true, List.append_nil, List.nil_append, List.cons_append]
      exact ⟨big _ (by omega), k _ _ (by rw [add_len]; omega) hp3 k3⟩
  · refine take_of (n := 31) hp2 (by decide) (.lit _ (by decide) (by decide) (by decide)) (by decide) fun f H3 hp3 k3 f0 f1 => ?_
    have ho := ho.keep hp2 k3
    simp only [x_seq, x_if, x_test, x_B, x_op, x_un, x_varS, x_var0, x_c, x_I0, x_I, x_U, x_bl, x_ret, x_next, x_eqS, x_neS, x_m0, x_m1, x_isStr, x_SM, x_addT, x_slS, x_lenS, x_strI, x_mulS, x_startT, x_findT, x_preT, x_lstT, x_ascT, x_digT, x_jn, x_js0, x_js1, x_isS, x_fmt, x_fmtS, x_divW, x_truK, x_truS, x_raiseT, x_asg, x_name, x_set0, x_setS, x_drop, x_cb, x_cons, x_nil, x_int1, x_abs1, x_max2, x_gcd, x_gsub, x_sl, x_part, x_nopart, x_int, x_call, x_lst, x_tup, x_not, x_and, x_or, x_andV, x_orV, x_notV, x_ifE, x_eqI, x_neI, x_eqB, x_neB, x_tbm, x_never, x_make, x_meth, x_isII, x_isIC, x_bool1, decide_eq_true_eq, Bool.false_eq_true, if_false, if_true, List.append_nil, List.nil_append, List.cons_append, x_ixT ho at0, x_ixT ho at1]
    have bf : Bd 31 (2 + f) := .lit _ (by omega) (by omega) (by decide)
    have m1 := bt.mul bf
    have m2 := bb.mul bf
    have l1 : (Str.ofString (toString (t * (2 + f)))).length ≤ 302 := str_len (intD_len2 (k := 301) m1 (by decide) (by decide))
    have l2 : (Str.ofString (toString (b * (2 + f)))).length ≤ 302 := str_len (intD_len2 (k := 301) m2 (by decide) (by decide))
    refine ⟨bt.ok bf (by decide) (by decide) (by decide), log1920 (m1.mono (by decide)), big _ (by omega), bb.ok bf (by decide) (by decide) (by decide), log1920 (m2.mono (by decide)), big _ (by rw [add_len]; omega), k _ _ (by rw [add_len, add_len]; omega) hp3 k3⟩
end SpX

set_option Elab.async false
set_option linter.all false
set_option maxRecDepth 100000
set_option maxHeartbeats 2000000
/-! Law k01: any text; the texts that are nearly numbers. -/
namespace SpX
open PySem PySem.Spec NumText L2
open TL (tl)
theorem x_lcR {te tb : TE} {g : TG} {tt : TT} {vs : List Nat} {σ : L2.St} {H : Hp} {Q : VK} : tLc (iRng1 (tCons te tNil)) g tt tb vs σ H Q = te σ H (fun v H1 => tLc (iRng1 (tCons (tC v) tNil)) g tt tb vs σ H1 Q) := rfl
theorem wipe1n {σ : L2.St} {i : Nat} {x : V} : wipe ((wipe σ [i]).set i (some x)) [i] = wipe σ [i] := by
  show ((σ.set i none).set i (some x)).set i none = σ.set i none
  rw [List.set_set, List.set_set]
/-- a list of signs, drawn one by one -/
theorem lc_signs {te : TE} {σ : L2.St} {H : Hp} {Q : VK} {P : Addr} {i : Nat} {n : Int} (h0 : 0 ≤ n) (h1 : n < 1000) (hp : PoolAt H P)
    (he : ∀ (j : Nat) (H' : Hp) (B : Addr → Prop) (QQ : VK), PoolB B H' P → (∀ b, B b → ∃ o, H' b = some o) → (∀ (y : Str) (H2 : Hp), y.length = 1 → PoolB B H2 P → Keep P H' H2 → QQ (.str y) H2) → te ((wipe σ [i]).set i (some (.int (j : Int)))) H' QQ)
    (k : ∀ (D : Addr) (H' : Hp) (ys : List Str), ys.length ≤ 1000 → (∀ y ∈ ys, y.length = 1) → H' D = some (.lst (ys.map V.str)) → PoolAt H' P → Keep P H H' → Q (.ref D) H') : tLc (iRng1 (tCons (tC (.int n)) tNil)) (gName i) tYes te [i] σ H Q := by
  refine ⟨n, rfl, by omega, by omega, fun D hD => ?_⟩
  have nD := pool_ne hp hD
  refine lc_range (lo := 0) (fun j H' => ∃ ys : List Str, ys.length = j ∧ (∀ y ∈ ys, y.length = 1) ∧ H' D = some (.lst (ys.map V.str)) ∧ PoolB (fun b => False ∨ b = D) H' P ∧ Keep P H H')
    ⟨[], rfl, fun _ h => absurd h (by simp), upd_same, hp.toB.more hD, Keep.of (Same.new hD)⟩ (fun j H' hj hh => ?_) fun H' hh => ?_
  · obtain ⟨ys, l, h1', e, hb, kp⟩ := hh
    refine ⟨wipe1n, ?_⟩
    unfold tYes
    dsimp only
    rw [if_pos rfl, Int.zero_add]
    refine he j H' (fun b => False ∨ b = D) _ hb (fun b hb => ?_) fun y H2 ly hb2 k2 => ?_
    · rcases hb with z | z
      · exact z.elim
      · exact ⟨_, by rw [z]; exact e⟩
    · have e2 := k2 _ _ nD e
      refine ⟨ys.map V.str, e2, ?_, ys ++ [y], ?_, ?_, ?_, ?_, ?_⟩
      · rw [List.length_map, l]
        exact Nat.lt_of_lt_of_le (show j < 1000 by omega) (by decide)
      · rw [List.length_append, l]
        rfl
      · intro z hz
        rcases List.mem_append.mp hz with q | q
        · exact h1' z q
        · rw [List.mem_singleton.mp q]
          exact ly
      · rw [upd_same, List.map_append]
        rfl
      · exact hb2.put (.inr rfl) nD
      · intro b o hb' eb
        rw [upd_ne (ne_of_none eb hD)]
        exact (kp.trans k2) b o hb' eb
  · obtain ⟨ys, l, h1', e, hb, kp⟩ := hh
    exact k D H' ys (by omega) h1' e hb.at kp
def spText : Sp := fun vs H Q _ => ∃ (P o : Addr) (t b : Int), vs = [.ref P, .ref o] ∧ PoolAt H P ∧ TupAt H o t b ∧ Num60 t b ∧ GivesS 6000 P H Q
theorem empty_lit : ("" : Str) = Str.empty := by decide +kernel
theorem join_signs {ys : List Str} {n : Nat} (l : ys.length ≤ n) (h : ∀ y ∈ ys, y.length = 1) : (ys.map (·.length)).sum ≤ n ∧ (Txt.join "" ys).length ≤ n := by
  have e : (ys.map (·.length)).sum = ys.length := by
    clear l
    induction ys with
    | nil => rfl
    | cons y r ih =>
      rw [List.map_cons, List.sum_cons, ih (fun z hz => h z (List.mem_cons_of_mem _ hz)), h y List.mem_cons_self, List.length_cons]
      omega
  refine ⟨by omega, ?_⟩
  rw [empty_lit, tl_len, tl_join0, List.length_flatten, List.map_map]
  have : (List.length ∘ tl) = fun y : Str => y.length := by
    funext y
    exact (tl_len y).symm
  rw [this]
  omega
theorem join_end {P D : Addr} {H H' : Hp} {Q : VK} {K : PySem.W.Frag} {ys : List Str} (k : GivesS 6000 P H Q) (l : ys.length ≤ 1000) (h : ∀ y ∈ ys, y.length = 1) (e : H' D = some (.lst (ys.map V.str))) (hp : PoolAt H' P) (kp : Keep P H H') : rJoinT K (.str "") [.ref D] H' Q := by
  obtain ⟨j1, j2⟩ := join_signs l h
  have l0 : ("" : Str).length = 0 := by decide +kernel
  exact ⟨_, D, ys, rfl, rfl, .inl (SqL.at e), by rw [l0, Nat.mul_zero]; omega, k _ _ (by omega) hp kp⟩
def t_ntext (P : Program) (K : PySem.W.Frag) (mg : Str → Option Value) (C Z D BN : Addr) (E : XK) : TS :=
    (tSeq (tAsg (tCall spTakeB [] E0 (tCons (tVar 0) (tCons (tC (.int 8)) tNil))) (gName 2))
    (tSeq (tIfS (tTest (tOp rEq (tVar 2) (tC (.int 0)))) (tRet (tM1 (rJoinT K) (tC (.str "")) (tLc (iRng1 (tCons (tCall spTakeB [] E0 (tCons (tVar 0) (tCons (tC (.int 131)) tNil))) tNil)) (gName 3) tYes (tCall spMark [] E0 (tCons (tVar 0) tNil)) [3]))) tNext)
    (tSeq (tIfS (tTest (tOp rEq (tVar 2) (tC (.int 1)))) (tRet (tM1 (rJoinT K) (tC (.str "")) (tLc (iRng1 (tCons (tCall spTakeB [] E0 (tCons (tVar 0) (tCons (tC (.int 13)) tNil))) tNil)) (gName 3) tYes (tOp rIxS (tC (.str "0123456789-/")) (tCall spTakeB [] E0 (tCons (tVar 0) (tCons (tC (.int 12)) tNil)))) [3]))) tNext)
    (tSeq (tIfS (tTest (tOp rEq (tVar 2) (tC (.int 2)))) (tRet (tCall spLong [] E0 (tCons (tVar 0) tNil))) tNext)
    (tRet (tCall spSpoilt [] E0 (tCons (tVar 0) (tCons (tVar 1) tNil))))))))
theorem pure_ntext {P0 : Program} {K : PySem.W.Frag} {mg : Str → Option Value} {C Z D BN : Addr} (vs : List V) (H : Hp) (Q : VK) (E : XK) (h : spText vs H Q E) : t_ntext P0 K mg C Z D BN E { nx := fun _ H' => Q .non H', rt := Q } (start ["pool", "pair", "kind", "k"] vs) H := by
  obtain ⟨P, o, t, b, rfl, hp, ho, hn, k⟩ := h
  show t_ntext P0 K mg C Z D BN E _ [some (.ref P), some (.ref o), none, none] H
  unfold t_ntext
  simp only [x_seq, x_if, x_test, x_B, x_op, x_un, x_varS, x_var0, x_c, x_I0, x_I, x_U, x_bl, x_ret, x_next, x_eqS, x_neS, x_m0, x_m1, x_isStr, x_SM, x_addT, x_slS, x_lenS, x_strI, x_mulS, x_startT, x_findT, x_preT, x_lstT, x_ascT, x_digT, x_jn, x_js0, x_js1, x_isS, x_fmt, x_fmtS, x_divW, x_truK, x_truS, x_raiseT, x_asg, x_name, x_set0, x_setS, x_drop, x_cb, x_cons, x_nil, x_int1, x_abs1, x_max2, x_gcd, x_gsub, x_sl, x_part, x_nopart, x_int, x_call, x_lst, x_tup, x_not, x_and, x_or, x_andV, x_orV, x_notV, x_ifE, x_eqI, x_neI, x_eqB, x_neB, x_tbm, x_never, x_make, x_meth, x_isII, x_isIC, x_bool1, decide_eq_true_eq, Bool.false_eq_true, if_false, if_true, List.append_nil, List.nil_append, List.cons_append]
  refine take_of (n := 31) hp (by decide) (.lit _ (by decide) (by decide) (by decide)) (by decide) fun kind H1 hp1 k1 _ _ => ?_
  have ho := ho.keep hp k1
  have k := k.after k1
  simp only [x_seq, x_if, x_test, x_B, x_op, x_un, x_varS, x_var0, x_c, x_I0, x_I, x_U, x_bl, x_ret, x_next, x_eqS, x_neS, x_m0, x_m1, x_isStr, x_SM, x_addT, x_slS, x_lenS, x_strI, x_mulS, x_startT, x_findT, x_preT, x_lstT, x_ascT, x_digT, x_jn, x_js0, x_js1, x_isS, x_fmt, x_fmtS, x_divW, x_truK, x_truS, x_raiseT, x_asg, x_name, x_set0, x_setS, x_drop, x_cb, x_cons, x_nil, x_int1, x_abs1, x_max2, x_gcd, x_gsub, x_sl, x_part, x_nopart, x_int, x_call, x_lst, x_tup, x_not, x_and, x_or, x_andV, x_orV, x_notV, x_ifE, x_eqI, x_neI, x_eqB, x_neB, x_tbm, x_never, x_make, x_meth, x_isII, x_isIC, x_bool1, decide_eq_true_eq, Bool.false_eq_true, if_false, if_true, List.append_nil, List.nil_append, List.cons_append]
  refine ite2 (fun _ => ?_) fun _ => ite2 (fun _ => ?_) fun _ => ite2 (fun _ => ?_) fun _ => ?_
  · rw [x_lcR]
    simp only [x_seq, x_if, x_test, x_B, x_op, x_un, x_varS, x_var0, x_c, x_I0, x_I, x_U, x_bl, x_ret, x_next, x_eqS, x_neS, x_m0, x_m1, x_isStr, x_SM, x_addT, x_slS, x_lenS, x_strI, x_mulS, x_startT, x_findT, x_preT, x_lstT, x_ascT, x_digT, x_jn, x_js0, x_js1, x_isS, x_fmt, x_fmtS, x_divW, x_truK, x_truS, x_raiseT, x_asg, x_name, x_set0, x_setS, x_drop, x_cb, x_cons, x_nil, x_int1, x_abs1, x_max2, x_gcd, x_gsub, x_sl, x_part, x_nopart, x_int, x_call, x_lst, x_tup, x_not, x_and, x_or, x_andV, x_orV, x_notV, x_ifE, x_eqI, x_neI, x_eqB, x_neB, x_tbm, x_never, x_make, x_meth, x_isII, x_isIC, x_bool1, decide_eq_true_eq, Bool.false_eq_true, if_false, if_true, List.append_nil, List.nil_append, List.cons_append]
    refine take_of (n := 31) hp1 (by decide) (.lit _ (by decide) (by decide) (by decide)) (by decide) fun n H2 hp2 k2 n0 n1 => ?_
    refine lc_signs n0 (by omega) hp2 (fun j H' B QQ hb hB kk => ?_) fun D' H' ys l h1 e hp3 k3 => join_end (k.after k2) l h1 e hp3 k3
    show tCall spMark [] E0 (tCons (tVar 0) tNil) [some (.ref P), some (.ref o), some (.int kind), some (.int (j : Int))] H' QQ
    simp only [x_seq, x_if, x_test, x_B, x_op, x_un, x_varS, x_var0, x_c, x_I0, x_I, x_U, x_bl, x_ret, x_next, x_eqS, x_neS, x_m0, x_m1, x_isStr, x_SM, x_addT, x_slS, x_lenS, x_strI, x_mulS, x_startT, x_findT, x_preT, x_lstT, x_ascT, x_digT, x_jn, x_js0, x_js1, x_isS, x_fmt, x_fmtS, x_divW, x_truK, x_truS, x_raiseT, x_asg, x_name, x_set0, x_setS, x_drop, x_cb, x_cons, x_nil, x_int1, x_abs1, x_max2, x_gcd, x_gsub, x_sl, x_part, x_nopart, x_int, x_call, x_lst, x_tup, x_not, x_and, x_or, x_andV, x_orV, x_notV, x_ifE, x_eqI, x_neI, x_eqB, x_neB, x_tbm, x_never, x_make, x_meth, x_isII, x_isIC, x_bool1, decide_eq_true_eq, Bool.false_eq_true, if_false, if_true, List.append_nil, List.nil_append, List.cons_append]
    exact ⟨P, B, rfl, hb, hB, kk⟩
  · rw [x_lcR]
    simp only [x_seq, x_if, x_test, x_B, x_op, x_un, x_varS, x_var0, x_c, x_I0, x_I, x_U, x_bl, x_ret, x_next, x_eqS, x_neS, x_m0, x_m1, x_isStr, x_SM, x_addT, x_slS, x_lenS, x_strI, x_mulS, x_startT, x_findT, x_preT, x_lstT, x_ascT, x_digT, x_jn, x_js0, x_js1, x_isS, x_fmt, x_fmtS, x_divW, x_truK, x_truS, x_raiseT, x_asg, x_name, x_set0, x_setS, x_drop, x_cb, x_cons, x_nil, x_int1, x_abs1, x_max2, x_gcd, x_gsub, x_sl, x_part, x_nopart, x_int, x_call, x_lst, x_tup, x_not, x_and, x_or, x_andV, x_orV, x_notV, x_ifE, x_eqI, x_neI, x_eqB, x_neB, x_tbm, x_never, x_make, x_meth, x_isII, x_isIC, x_bool1, decide_eq_true_eq, Bool.false_eq_true, if_false, if_true, List.append_nil, List.nil_append, List.cons_append]
    refine take_of (n := 31) hp1 (by decide) (.lit _ (by decide) (by decide) (by decide)) (by decide) fun n H2 hp2 k2 n0 n1 => ?_
    refine lc_signs n0 (by omega) hp2 (fun j H' B QQ hb hB kk => ?_) fun D' H' ys l h1 e hp3 k3 => join_end (k.after k2) l h1 e hp3 k3
    show tOp rIxS (tC (.str "0123456789-/")) (tCall spTakeB [] E0 (tCons (tVar 0) (tCons (tC (.int 12)) tNil))) [some (.ref P), some (.ref o), some (.int kind), some (.int (j : Int))] H' QQ
    simp only [x_seq, x_if, x_test, x_B, x_op, x_un, x_varS, x_var0, x_c, x_I0, x_I, x_U, x_bl, x_ret, x_next, x_eqS, x_neS, x_m0, x_m1, x_isStr, x_SM, x_addT, x_slS, x_lenS, x_strI, x_mulS, x_startT, x_findT, x_preT, x_lstT, x_ascT, x_digT, x_jn, x_js0, x_js1, x_isS, x_fmt, x_fmtS, x_divW, x_truK, x_truS, x_raiseT, x_asg, x_name, x_set0, x_setS, x_drop, x_cb, x_cons, x_nil, x_int1, x_abs1, x_max2, x_gcd, x_gsub, x_sl, x_part, x_nopart, x_int, x_call, x_lst, x_tup, x_not, x_and, x_or, x_andV, x_orV, x_notV, x_ifE, x_eqI, x_neI, x_eqB, x_neB, x_tbm, x_never, x_make, x_meth, x_isII, x_isIC, x_bool1, decide_eq_true_eq, Bool.false_eq_true, if_false, if_true, List.append_nil, List.nil_append, List.cons_append]
    refine takeB_of (n := 31) hb hB (by decide) (.lit _ (by decide) (by decide) (by decide)) (by decide) fun r H3 hb3 k3 r0 r1 => ?_
    have hl : ((tl "0123456789-/").length : Int) = 12 := by decide +kernel
    have hs : ("0123456789-/" : Str).length ≤ sizeLine := by decide +kernel
    generalize ("0123456789-/" : Str) = M at hl hs ⊢
    obtain ⟨c, hc⟩ := atI_len (l := tl M) (i := r) r0 (by omega)
    rw [x_ixS hs hc]
    exact kk _ _ rfl hb3 k3
  · exact long_of hp1 k
  · exact ⟨P, o, t, b, rfl, hp1, ho, hn, fun y H' l p q => k y H' (by omega) p q⟩
/-- written values as arguments -/
def litA : List V → TA
  | [] => tNil
  | v :: r => tCons (tC v) (litA r)
theorem x_lit {cs : List V} {σ : L2.St} {H : Hp} {QA : List V → Hp → Prop} : litA cs σ H QA = QA cs H := by
  induction cs generalizing QA with
  | nil => rfl
  | cons v r ih =>
    show litA r σ H (fun xs H2 => QA (v :: xs) H2) = _
    rw [ih]
/-- the texts that are nearly numbers -/
def fix1 : List Str := ["", "-", "/", "+1", "-0", "00", "01", "-01", "0/1", "0/2", "-0/1", "1/1", "3/1", "4/2", "-6/4"]
def fix2 : List Str := ["1/0", "0/0", "1/02", "1/-2", "1/+2", " 1", "1 ", "1 /2", "1\n", "1.0", "1e1", "1_0", "1//2"]
def fix3 : List Str := ["1/2/3", "--1"]
def spFixed : Sp := fun vs H Q _ => vs = [] ∧ ∀ (p : Addr) (ys : List Str) (H' : Hp), H' p = some (.lst (ys.map V.str)) → ys.length ≤ 100 → (∀ y ∈ ys, y.length ≤ 100) → Same H H' → Q (.ref p) H'
def t_nfixed (P : Program) (K : PySem.W.Frag) (mg : Str → Option Value) (C Z D BN : Addr) (E : XK) : TS :=
    (tSeq (tAsg (tLst (tCons (tC (.str "")) (tCons (tC (.str "-")) (tCons (tC (.str "/")) (tCons (tC (.str "+1")) (tCons (tC (.str "-0")) (tCons (tC (.str "00")) (tCons (tC (.str "01")) (tCons (tC (.str "-01")) (tCons (tC (.str "0/1")) (tCons (tC (.str "0/2")) (tCons (tC (.str "-0/1")) (tCons (tC (.str "1/1")) (tCons (tC (.str "3/1")) (tCons (tC (.str "4/2")) (tCons (tC (.str "-6/4")) tNil)))))))))))))))) (gName 0))
    (tSeq (tAsg (tOp rCat (tVar 0) (tLst (tCons (tC (.str "1/0")) (tCons (tC (.str "0/0")) (tCons (tC (.str "1/02")) (tCons (tC (.str "1/-2")) (tCons (tC (.str "1/+2")) (tCons (tC (.str " 1")) (tCons (tC (.str "1 ")) (tCons (tC (.str "1 /2")) (tCons (tC (.str "1\n")) (tCons (tC (.str "1.0")) (tCons (tC (.str "1e1")) (tCons (tC (.str "1_0")) (tCons (tC (.str "1//2")) tNil))))))))))))))) (gName 0))
    (tRet (tOp rCat (tVar 0) (tLst (tCons (tC (.str "1/2/3")) (tCons (tC (.str "--1")) tNil)))))))
theorem nfixed_eq {P0 : Program} {K : PySem.W.Frag} {mg : Str → Option Value} {C Z D BN : Addr} {E : XK} : t_nfixed P0 K mg C Z D BN E =
    tSeq (tAsg (tLst (litA (fix1.map V.str))) (gName 0)) (tSeq (tAsg (tOp rCat (tVar 0) (tLst (litA (fix2.map V.str)))) (gName 0)) (tRet (tOp rCat (tVar 0) (tLst (litA (fix3.map V.str)))))) := rfl
theorem pure_nfixed {P0 : Program} {K : PySem.W.Frag} {mg : Str → Option Value} {C Z D BN : Addr} (vs : List V) (H : Hp) (Q : VK) (E : XK) (h : spFixed vs H Q E) : t_nfixed P0 K mg C Z D BN E { nx := fun _ H' => Q .non H', rt := Q } (start ["found"] vs) H := by
  obtain ⟨rfl, k⟩ := h
  have es : L2.start ["found"] [] = [none] := rfl
  rw [es, nfixed_eq]
  have l1 : fix1.length = 15 := rfl
  have l2 : fix2.length = 13 := rfl
  have l3 : fix3.length = 2 := rfl
  have s1 : ∀ y ∈ fix1, y.length ≤ 100 := by decide +kernel
  have s2 : ∀ y ∈ fix2, y.length ≤ 100 := by decide +kernel
  have s3 : ∀ y ∈ fix3, y.length ≤ 100 := by decide +kernel
  generalize fix1 = F1 at l1 s1 ⊢
  generalize fix2 = F2 at l2 s2 ⊢
  generalize fix3 = F3 at l3 s3 ⊢
  have big : ∀ n : Nat, n ≤ 6000 → n ≤ sizeLine := fun n hn => Nat.le_trans hn (by decide)
  rw [x_seq, x_asg, x_lst, x_lit]
  refine ⟨big _ (by rw [List.length_map]; omega), fun p hp => ?_⟩
  rw [x_name, x_set0]
  dsimp only
  rw [x_seq, x_asg, x_op, x_var0, x_lst, x_lit]
  refine ⟨big _ (by rw [List.length_map]; omega), fun q hq => ?_⟩
  have sm : Same H (upd (upd H p (.lst (F1.map V.str))) q (.lst (F2.map V.str))) := Same.new' (Same.new hp) hq
  have npq : p ≠ q := fun e => by
    rw [e, upd_same] at hq
    cases hq
  have e1 : (upd (upd H p (.lst (F1.map V.str))) q (.lst (F2.map V.str))) p = some (.lst (F1.map V.str)) := by rw [upd_ne npq, upd_same]
  have e2 : (upd (upd H p (.lst (F1.map V.str))) q (.lst (F2.map V.str))) q = some (.lst (F2.map V.str)) := upd_same
  generalize (upd (upd H p (.lst (F1.map V.str))) q (.lst (F2.map V.str))) = H1 at sm e1 e2 ⊢
  rw [x_cat e1 e2 (by rw [List.length_map, List.length_map]; exact big _ (by omega))]
  intro r hr
  rw [x_name, x_set0]
  dsimp only
  rw [x_ret, x_op, x_var0, x_lst, x_lit]
  refine ⟨big _ (by rw [List.length_map]; omega), fun t ht => ?_⟩
  have sm2 : Same H1 (upd (upd H1 r (.lst (F1.map V.str ++ F2.map V.str))) t (.lst (F3.map V.str))) := Same.new' (Same.new hr) ht
  have nrt : r ≠ t := fun e => by
    rw [e, upd_same] at ht
    cases ht
  have e3 : (upd (upd H1 r (.lst (F1.map V.str ++ F2.map V.str))) t (.lst (F3.map V.str))) r = some (.lst (F1.map V.str ++ F2.map V.str)) := by rw [upd_ne nrt, upd_same]
  have e4 : (upd (upd H1 r (.lst (F1.map V.str ++ F2.map V.str))) t (.lst (F3.map V.str))) t = some (.lst (F3.map V.str)) := upd_same
  generalize (upd (upd H1 r (.lst (F1.map V.str ++ F2.map V.str))) t (.lst (F3.map V.str))) = H2 at sm2 e3 e4 ⊢
  rw [x_cat e3 e4 (by rw [List.length_append, List.length_map, List.length_map, List.length_map]; exact big _ (by omega))]
  intro u hu
  refine k u (F1 ++ F2 ++ F3) _ (by rw [upd_same, List.map_append, List.map_append]) (by rw [List.length_append, List.length_append]; omega) (fun y hy => ?_) (Same.new' (sm.trans sm2) hu)
  rcases List.mem_append.mp hy with z | z
  · rcases List.mem_append.mp z with z | z
    · exact s1 y z
    · exact s2 y z
  · exact s3 y z
end SpX

set_option Elab.async false
set_option linter.all false
set_option maxRecDepth 100000
set_option maxHeartbeats 2000000
/-! Ints written in blocks. -/
namespace SpX
open PySem PySem.Spec NumText L2
open TL (tl)
theorem take_snoc' {α : Type} {l : List α} {i : Nat} {z : α} (h : l[i]? = some z) : l.take (i + 1) = l.take i ++ [z] := by
  rw [List.take_add_one, h]
  rfl
/-- for each item a new pair, its two parts one behind the other -/
theorem lc2_pairs {K : PySem.W.Frag} {tv te1 : TE} {σ : L2.St} {H : Hp} {Q : VK} {i j : Nat} {p : Addr} {bs : List V} (f g : V → V) (hv : ∀ Q : VK, tv σ H Q = Q (.ref p) H) (h : H p = some (.lst bs)) (hl : bs.length < 2000)
    (w1 : ∀ x, wipe ((wipe σ [i, j]).set i (some x)) [i, j] = wipe σ [i, j]) (w2 : ∀ x y, wipe ((wipe ((wipe σ [i, j]).set i (some x)) [j]).set j (some y)) [j] = wipe ((wipe σ [i, j]).set i (some x)) [j])
    (ht : ∀ (x y : V) (H' : Hp) (QQ : VK), QQ y H' → tVar j ((wipe ((wipe σ [i, j]).set i (some x)) [j]).set j (some y)) H' QQ)
    (hb : ∀ (m : Nat) (x : V) (H' : Hp) (QQ : VK), bs[m]? = some x → Same H H' → (∀ a, H' a = none → QQ (.ref a) (upd H' a (.tup [f x, g x]))) → te1 ((wipe σ [i, j]).set i (some x)) H' QQ)
    (k : ∀ (D : Addr) (H' : Hp), Same H H' → H' D = some (.lst (bs.flatMap fun x => [f x, g x])) → Q (.ref D) H') : tLc2 (iList K tv) (gName i) tYes (iTup K te1) (gName j) tYes (tVar j) [i, j] [j] σ H Q := by
  show tv σ H _
  rw [hv]
  refine ⟨p, rfl, ⟨_, SqL.at h⟩, fun D hD => ⟨fun m r H' => r = bs.length - m ∧ m ≤ bs.length ∧ Same H H' ∧ H' D = some (.lst ((bs.take m).flatMap fun x => [f x, g x])), ⟨bs.length, by simp, Nat.zero_le _, Same.new hD, by rw [upd_same]; rfl⟩, ?_⟩⟩
  rintro m r H' ⟨rfl, hm, sm, eD⟩
  have hp' := sm _ _ h
  by_cases hlt : m < bs.length
  · refine .inr ⟨⟨bs, bs[m], SqL.at hp', by simp [hlt]⟩, fun H2 => Same H H2 ∧ H2 D = some (.lst ((bs.take (m + 1)).flatMap fun x => [f x, g x])), fun H2 p' => ⟨bs.length - (m + 1), by omega, rfl, hlt, p'⟩, fun x H2 y => ?_⟩
    obtain ⟨e, y⟩ := y
    subst e
    have hx := y bs (SqL.at hp')
    refine ⟨w1 _, ?_⟩
    unfold tYes
    dsimp only
    rw [if_pos rfl]
    show te1 _ _ _
    refine hb m x H2 _ hx sm fun a ha => ⟨a, rfl, ⟨_, SqT.at upd_same⟩, ?_⟩
    have naD : D ≠ a := fun e => by
      rw [e, ha] at eD
      cases eD
    have tk : bs.take (m + 1) = bs.take m ++ [x] := take_snoc' hx
    refine ⟨fun n r H4 => r = 2 - n ∧ n ≤ 2 ∧ Same H H4 ∧ H4 a = some (.tup [f x, g x]) ∧ H4 D = some (.lst ((bs.take m).flatMap (fun x => [f x, g x]) ++ [f x, g x].take n)), ⟨2, rfl, by decide, Same.new' sm ha, upd_same, by rw [upd_ne naD, List.take_zero, List.append_nil]; exact eD⟩, ?_⟩
    rintro n r H4 ⟨rfl, hn, s4, ea, eD4⟩
    by_cases hlk : n < 2
    · refine .inr ⟨⟨[f x, g x], [f x, g x][n], SqT.at ea, by simp [hlk]⟩, fun H5 => Same H H5 ∧ H5 a = some (.tup [f x, g x]) ∧ H5 D = some (.lst ((bs.take m).flatMap (fun x => [f x, g x]) ++ [f x, g x].take (n + 1))), fun H5 p' => ⟨2 - (n + 1), by omega, rfl, hlk, p'⟩, fun y H5 z => ?_⟩
      obtain ⟨e, z⟩ := z
      subst e
      have hy := z [f x, g x] (SqT.at ea)
      refine ⟨w2 _ _, ?_⟩
      show if true = true then _ else _
      rw [if_pos rfl]
      refine ht _ _ _ _ ⟨_, eD4, ?_, ?_, ?_, ?_⟩
      · rw [List.length_append, List.length_flatMap]
        have h1 : (List.map (fun a => [f a, g a].length) (bs.take m)).sum ≤ 2 * bs.length := by
          have : ∀ l : List V, (List.map (fun a => [f a, g a].length) l).sum = 2 * l.length := fun l => by
            induction l with
            | nil => rfl
            | cons a r ih =>
              rw [List.map_cons, List.sum_cons, ih, List.length_cons, List.length_cons, List.length_cons, List.length_nil]
              omega
          rw [this, List.length_take]
          omega
        have h2 : ([f x, g x].take n).length ≤ 2 := by
          rw [List.length_take]
          simp
          omega
        exact Nat.lt_of_lt_of_le (show _ < 5000 by omega) (by decide)
      · intro b o e
        rw [upd_ne (ne_of_none e hD)]
        exact s4 _ _ e
      · rw [upd_ne (Ne.symm naD)]
        exact ea
      · rw [upd_same, List.append_assoc, take_snoc' hy]
    · have e : n = 2 := by omega
      subst e
      refine .inl ⟨⟨[f x, g x], SqT.at ea, by simp⟩, s4, ?_⟩
      rw [eD4, tk, List.flatMap_append]
      simp
  · have e : m = bs.length := by omega
    subst e
    refine .inl ⟨⟨bs, SqL.at hp', Nat.le_refl _⟩, k D _ sm ?_⟩
    rw [eD, List.take_length]
end SpX

set_option Elab.async false
set_option linter.all false
set_option maxRecDepth 100000
set_option maxHeartbeats 2000000
set_option exponentiation.threshold 20000
/-! Ints written in blocks. -/
namespace SpX
open PySem PySem.Spec NumText L2
open TL (tl)
/-! ### the numbers behind -/
def val (P : Nat) (bs : List Nat) : Nat := bs.foldl (fun a b => a * P + b) 0
theorem val_split {p : Nat} (bs : List Nat) : val p (bs.flatMap fun b => [b / p, b % p]) = val (p * p) bs := by
  have : ∀ (l : List Nat) (a : Nat), (l.flatMap fun b => [b / p, b % p]).foldl (fun a b => a * p + b) a = l.foldl (fun a b => a * (p * p) + b) a := fun l => by
    induction l with
    | nil => intro a; rfl
    | cons b r ih =>
      intro a
      have e : [b / p, b % p].foldl (fun a b => a * p + b) a = a * (p * p) + b := by
        show (a * p + b / p) * p + b % p = a * (p * p) + b
        have h := Nat.div_add_mod b p
        rw [Nat.add_mul, Nat.mul_assoc, Nat.mul_comm (b / p) p]
        omega
      rw [List.flatMap_cons, List.foldl_append, e, ih, List.foldl_cons]
  exact this bs 0
theorem val_pad {k : Nat} (hk : 0 < k) (bs : List Nat) (h : ∀ b ∈ bs, b < 10 ^ k) : digitsVal (bs.map (padD k)).flatten = val (10 ^ k) bs := by
  refine snoc_rec (P := fun bs => (∀ b ∈ bs, b < 10 ^ k) → digitsVal (bs.map (padD k)).flatten = val (10 ^ k) bs) (fun _ => rfl) (fun l b ih h => ?_) bs h
  have h1 := ih fun c hc => h c (List.mem_append_left _ hc)
  have h2 := h b (List.mem_append_right _ (List.mem_singleton.mpr rfl))
  unfold val at h1 ⊢
  rw [List.map_append, List.flatten_append, List.foldl_append, List.foldl_cons, List.foldl_nil, digitsVal_append, h1]
  simp only [List.map_cons, List.map_nil, List.flatten_cons, List.flatten_nil, List.append_nil]
  rw [padD_val, padD_len hk h2]
theorem pad_dig {k : Nat} (bs : List Nat) : AllDigits (bs.map (padD k)).flatten := fun c hc => by
  obtain ⟨l, hl, hcl⟩ := List.mem_flatten.mp hc
  obtain ⟨b, _, rfl⟩ := List.mem_map.mp hl
  exact padD_dig k b c hcl
theorem drop_num {l : List Nat} (h : AllDigits l) (h1 : 1 ≤ digitsVal l) : l.dropWhile (· == 48) = numD (digitsVal l) := by
  have e := List.takeWhile_append_dropWhile (p := (· == 48)) (l := l)
  have hz : l.takeWhile (· == 48) = List.replicate (l.takeWhile (· == 48)).length 48 := by
    refine List.eq_replicate_of_mem fun b hb => ?_
    have : ∀ m : List Nat, ∀ b ∈ m.takeWhile (· == 48), b = 48 := fun m => by
      induction m with
      | nil => intro b hb; cases hb
      | cons c r ih =>
        intro b hb
        rw [List.takeWhile_cons] at hb
        by_cases hc : (c == 48) = true
        · rw [if_pos hc] at hb
          rcases List.mem_cons.mp hb with q | q
          · rw [q]
            simpa using hc
          · exact ih b q
        · rw [if_neg hc] at hb
          cases hb
    exact this l b hb
  have hv : digitsVal l = digitsVal (l.dropWhile (· == 48)) := by
    conv => lhs; rw [← e, hz]
    exact zeros_val _ _
  have hd : ∀ m : List Nat, (m.dropWhile (· == 48)).head? ≠ some 48 := fun m => by
    induction m with
    | nil => simp
    | cons c r ih =>
      rw [List.dropWhile_cons]
      by_cases hc : (c == 48) = true
      · rw [if_pos hc]
        exact ih
      · rw [if_neg hc, List.head?_cons]
        intro q
        rw [Option.some.inj q] at hc
        exact hc rfl
  rw [hv]
  refine (canon_num ⟨fun c hc => h c ?_, fun q => ?_, fun _ => hd l⟩).symm
  · rw [← e]
    exact List.mem_append_right _ hc
  · rw [hv, q] at h1
    exact absurd h1 (by decide)
/-- 10 ^ 64, its square, .. -/
def bp (i : Nat) : Nat := (10 ^ 64) ^ (2 ^ i)
theorem bp_succ (i : Nat) : bp (i + 1) = bp i * bp i := by
  unfold bp
  generalize 10 ^ 64 = T
  rw [Nat.pow_succ, Nat.pow_mul, Nat.pow_two]
theorem bp_pos (i : Nat) : 0 < bp i := Nat.pow_pos (by decide)
theorem bp_ge (i : Nat) : 2 ^ (212 * 2 ^ i) ≤ bp i := by
  unfold bp
  rw [Nat.pow_mul]
  exact Nat.pow_le_pow_left (by decide +kernel) _
/-- the powers up to a number -/
def PwOf (n k : Nat) : Prop := (∀ i, i < k → bp i ≤ n) ∧ n < bp k
theorem pw_small {n i : Nat} (hn : n < 2 ^ 17999) (h : bp i ≤ n) : i ≤ 6 := by
  have h1 := Nat.lt_of_le_of_lt (Nat.le_trans (bp_ge i) h) hn
  have h2 : 212 * 2 ^ i < 17999 := (Nat.pow_lt_pow_iff_right (by decide)).mp h1
  by_cases h7 : 7 ≤ i
  · have : 2 ^ 7 ≤ 2 ^ i := Nat.pow_le_pow_right (by decide) h7
    omega
  · omega
theorem log_bp {i : Nat} (h : i ≤ 5) : (bp i).log2 < 9000 := by
  have : ∀ i : Fin 6, (bp i.val).log2 < 9000 := by decide +kernel
  exact this ⟨i, by omega⟩
theorem div_bp {x i : Nat} (hx : x < 2 ^ 17999) (h : i ≤ 6) : CDivP (x : Int) ((bp i : Nat) : Int) := by
  refine ⟨by have := bp_pos i; omega, ?_⟩
  by_cases h5 : i ≤ 5
  · exact PyProof.noPylong_of_log2 (by rw [Int.natAbs_natCast]; exact log_bp h5)
  · have e : i = 6 := by omega
    subst e
    unfold Builtin.divisionGoesByPylong
    have hl : (bp 6).log2 / 30 + 1 = 454 := by decide +kernel
    have h0 : ¬ (((bp 6 : Nat) : Int) == 0) = true := by
      have := bp_pos 6
      simp
      omega
    have hy : (if (((bp 6 : Nat) : Int) == 0) = true then 0 else (((bp 6 : Nat) : Int)).natAbs.log2 / 30 + 1) = 454 := by
      rw [if_neg h0, Int.natAbs_natCast, hl]
    have hx2 : (if ((x : Int) == 0) = true then 0 else (x : Int).natAbs.log2 / 30 + 1) ≤ 600 := by
      rw [Int.natAbs_natCast]
      by_cases hx0 : x = 0
      · rw [hx0]
        decide
      · rw [if_neg (by simpa using hx0)]
        have : x.log2 < 17999 := (Nat.log2_lt hx0).mpr hx
        omega
    dsimp only
    have : ¬ ((if ((x : Int) == 0) = true then 0 else (x : Int).natAbs.log2 / 30 + 1) > (if (((bp 6 : Nat) : Int) == 0) = true then 0 else (((bp 6 : Nat) : Int)).natAbs.log2 / 30 + 1) + 150) := by omega
    rw [decide_eq_false this, Bool.and_false]
end SpX

set_option Elab.async false
set_option linter.all false
set_option maxRecDepth 100000
set_option maxHeartbeats 2000000
set_option exponentiation.threshold 20000
/-! Ints written in blocks: the defs. -/
namespace SpX
open PySem PySem.Spec NumText L2
open TL (tl)
def bps (k : Nat) : List Nat := (List.range k).map bp
def natL (bs : List Nat) : List V := bs.map fun b => V.int ((b : Nat) : Int)
def spPowers : Sp := fun vs H Q _ => ∃ n : Nat, vs = [.int (n : Int)] ∧ n < 2 ^ 17999 ∧ ∀ (p : Addr) (k : Nat) (H' : Hp), PwOf n k → H' p = some (.lst (natL (bps k))) → Same H H' → Q (.ref p) H'
theorem bps_succ (k : Nat) : natL (bps (k + 1)) = natL (bps k) ++ [.int ((bp k : Nat) : Int)] := by
  unfold natL bps
  rw [List.range_succ, List.map_append, List.map_append]
  rfl
theorem bps_len (k : Nat) : (natL (bps k)).length = k := by
  unfold natL bps
  rw [List.length_map, List.length_map, List.length_range]
theorem bp0 : (10 : Int) ^ 64 = ((bp 0 : Nat) : Int) := by decide +kernel
def t_npowers (P : Program) (K : PySem.W.Frag) (mg : Str → Option Value) (C Z D BN : Addr) (E : XK) : TS :=
    (tSeq (tAsg (tC (.int (10 ^ 64))) (gName 1))
    (tSeq (tAsg (tLst tNil) (gName 2))
    (tSeq (tWhile (tTest (tOp (rI0 fun i j => .bl (decide (i ≤ j))) (tVar 1) (tVar 0))) ((tSeq (tDrop (tBM K "list" rAppend (tVar 2) (tCons (tVar 1) tNil)))
    (tAsg (tOp (rI IntMulOk fun i j => .int (i * j)) (tVar 1) (tVar 1)) (gName 1)))))
    (tRet (tVar 2)))))
theorem pure_npowers {P0 : Program} {K : PySem.W.Frag} {mg : Str → Option Value} {C Z D BN : Addr} (vs : List V) (H : Hp) (Q : VK) (E : XK) (h : spPowers vs H Q E) : t_npowers P0 K mg C Z D BN E { nx := fun _ H' => Q .non H', rt := Q } (start ["size", "power", "powers"] vs) H := by
  obtain ⟨n, rfl, hn, k⟩ := h
  show t_npowers P0 K mg C Z D BN E _ [some (.int (n : Int)), none, none] H
  unfold t_npowers
  simp only [x_seq, x_if, x_test, x_B, x_op, x_un, x_varS, x_var0, x_c, x_I0, x_I, x_U, x_bl, x_ret, x_next, x_eqS, x_neS, x_m0, x_m1, x_isStr, x_SM, x_addT, x_slS, x_lenS, x_strI, x_mulS, x_startT, x_findT, x_preT, x_lstT, x_ascT, x_digT, x_jn, x_js0, x_js1, x_isS, x_fmt, x_fmtS, x_divW, x_truK, x_truS, x_raiseT, x_asg, x_name, x_set0, x_setS, x_drop, x_cb, x_cons, x_nil, x_int1, x_abs1, x_max2, x_gcd, x_gsub, x_sl, x_part, x_nopart, x_int, x_call, x_lst, x_tup, x_not, x_and, x_or, x_andV, x_orV, x_notV, x_ifE, x_eqI, x_neI, x_eqB, x_neB, x_tbm, x_never, x_make, x_meth, x_isII, x_isIC, x_bool1, decide_eq_true_eq, Bool.false_eq_true, if_false, if_true, List.append_nil, List.nil_append, List.cons_append, bp0]
  refine ⟨by decide, fun p hp => ?_⟩
  refine while_by (fun σ H' => ∃ i : Nat, (∀ j, j < i → bp j ≤ n) ∧ i ≤ 7 ∧ σ = [some (.int (n : Int)), some (.int ((bp i : Nat) : Int)), some (.ref p)] ∧ H' p = some (.lst (natL (bps i))) ∧ Same H H')
    (fun σ H' => 20 - (match H' p with | some (.lst xs) => xs.length | _ => 0)) ⟨0, fun j hj => absurd hj (by omega), by decide, rfl, by rw [upd_same]; rfl, Same.new hp⟩ ?_ ?_
  · rintro σ H' ⟨i, hi, hi7, rfl, e, s⟩
    simp only [x_seq, x_if, x_test, x_B, x_op, x_un, x_varS, x_var0, x_c, x_I0, x_I, x_U, x_bl, x_ret, x_next, x_eqS, x_neS, x_m0, x_m1, x_isStr, x_SM, x_addT, x_slS, x_lenS, x_strI, x_mulS, x_startT, x_findT, x_preT, x_lstT, x_ascT, x_digT, x_jn, x_js0, x_js1, x_isS, x_fmt, x_fmtS, x_divW, x_truK, x_truS, x_raiseT, x_asg, x_name, x_set0, x_setS, x_drop, x_cb, x_cons, x_nil, x_int1, x_abs1, x_max2, x_gcd, x_gsub, x_sl, x_part, x_nopart, x_int, x_call, x_lst, x_tup, x_not, x_and, x_or, x_andV, x_orV, x_notV, x_ifE, x_eqI, x_neI, x_eqB, x_neB, x_tbm, x_never, x_make, x_meth, x_isII, x_isIC, x_bool1, decide_eq_true_eq, Bool.false_eq_true, if_false, if_true, List.append_nil, List.nil_append, List.cons_append]
    refine ite2 (fun hle => ?_) fun hle => ?_
    · have hle' : bp i ≤ n := by omega
      have h6 := pw_small hn hle'
      have bd : Bd 17999 ((bp i : Nat) : Int) := by
        unfold Bd
        rw [Int.natAbs_natCast]
        exact Nat.lt_of_le_of_lt hle' hn
      refine ⟨ty_lst e, ?_⟩
      rw [x_append e (by rw [bps_len]; exact Nat.lt_of_lt_of_le (show i < 1000 by omega) (by decide))]
      try simp only [x_seq, x_if, x_test, x_B, x_op, x_un, x_varS, x_var0, x_c, x_I0, x_I, x_U, x_bl, x_ret, x_next, x_eqS, x_neS, x_m0, x_m1, x_isStr, x_SM, x_addT, x_slS, x_lenS, x_strI, x_mulS, x_startT, x_findT, x_preT, x_lstT, x_ascT, x_digT, x_jn, x_js0, x_js1, x_isS, x_fmt, x_fmtS, x_divW, x_truK, x_truS, x_raiseT, x_asg, x_name, x_set0, x_setS, x_drop, x_cb, x_cons, x_nil, x_int1, x_abs1, x_max2, x_gcd, x_gsub, x_sl, x_part, x_nopart, x_int, x_call, x_lst, x_tup, x_not, x_and, x_or, x_andV, x_orV, x_notV, x_ifE, x_eqI, x_neI, x_eqB, x_neB, x_tbm, x_never, x_make, x_meth, x_isII, x_isIC, x_bool1, decide_eq_true_eq, Bool.false_eq_true, if_false, if_true, List.append_nil, List.nil_append, List.cons_append]
      refine ⟨bd.ok bd (by decide) (by decide) (by decide), ⟨i + 1, fun j hj => ?_, by omega, ?_, by rw [upd_same, bps_succ], fun b o eb => ?_⟩, ?_⟩
      · by_cases hj2 : j < i
        · exact hi j hj2
        · have : j = i := by omega
          rw [this]
          exact hle'
      · rw [bp_succ]
        rfl
      · rw [upd_ne (ne_of_none eb hp)]
        exact s b o eb
      · rw [upd_same, e]
        dsimp only
        rw [List.length_append, bps_len]
        simp
        omega
    · try simp only [x_seq, x_if, x_test, x_B, x_op, x_un, x_varS, x_var0, x_c, x_I0, x_I, x_U, x_bl, x_ret, x_next, x_eqS, x_neS, x_m0, x_m1, x_isStr, x_SM, x_addT, x_slS, x_lenS, x_strI, x_mulS, x_startT, x_findT, x_preT, x_lstT, x_ascT, x_digT, x_jn, x_js0, x_js1, x_isS, x_fmt, x_fmtS, x_divW, x_truK, x_truS, x_raiseT, x_asg, x_name, x_set0, x_setS, x_drop, x_cb, x_cons, x_nil, x_int1, x_abs1, x_max2, x_gcd, x_gsub, x_sl, x_part, x_nopart, x_int, x_call, x_lst, x_tup, x_not, x_and, x_or, x_andV, x_orV, x_notV, x_ifE, x_eqI, x_neI, x_eqB, x_neB, x_tbm, x_never, x_make, x_meth, x_isII, x_isIC, x_bool1, decide_eq_true_eq, Bool.false_eq_true, if_false, if_true, List.append_nil, List.nil_append, List.cons_append]
      exact k p i H' ⟨hi, by omega⟩ e s
  · rintro σ H' R R' hR ⟨v, e1, w, e2, i, j, h1, h2, hq⟩
    first
      | exact ⟨v, e1, w, e2, i, j, h1, h2, by obtain ⟨k, h3, h4⟩ := hq; exact ⟨k, h3, hR _ _ h4⟩⟩
      | exact ⟨v, e1, w, e2, i, j, h1, h2, by obtain ⟨t, k, h3, h4⟩ := hq; exact ⟨t, k, h3, hR _ _ h4⟩⟩
end SpX

set_option Elab.async false
set_option linter.all false
set_option maxRecDepth 100000
set_option maxHeartbeats 2000000
set_option exponentiation.threshold 20000
/-! Ints written in blocks: the writing. -/
namespace SpX
open PySem PySem.Spec NumText L2
open TL (tl)
theorem lc_mapL {K : PySem.W.Frag} {tv te : TE} {σ : L2.St} {H : Hp} {Q : VK} {p : Addr} {xs : List V} {i : Nat} (f : V → V) (hv : ∀ Q : VK, tv σ H Q = Q (.ref p) H) (h : H p = some (.lst xs)) (hl : xs.length < 2000)
    (he : ∀ (x : V) (H' : Hp) (QQ : VK), x ∈ xs → Same H H' → QQ (f x) H' → te ((wipe σ [i]).set i (some x)) H' QQ) (k : ∀ (D : Addr) (H' : Hp), Same H H' → H' D = some (.lst (xs.map f)) → Q (.ref D) H') : tLc (iList K tv) (gName i) tYes te [i] σ H Q := by
  show tv σ H _
  rw [hv]
  refine ⟨p, rfl, ⟨_, SqL.at h⟩, fun D hD => lc_list (K := K) (a := p) (xs := xs) (fun j H' => Same H H' ∧ H' D = some (.lst ((xs.take j).map f))) ⟨Same.new hD, upd_same⟩ (fun j H' _ s => SqL.at (s.1 _ _ h)) (fun j x H' hj s => ?_) fun H' s => k D H' s.1 (by rw [s.2, List.take_length])⟩
  refine ⟨wipe1n, ?_⟩
  unfold tYes
  dsimp only
  rw [if_pos rfl]
  refine he x H' _ (List.mem_of_getElem? hj) s.1 ⟨_, s.2, ?_, ?_, ?_⟩
  · rw [List.length_map, List.length_take]
    exact Nat.lt_of_lt_of_le (show _ < 5000 by omega) (by decide)
  · intro b o e
    rw [upd_ne (ne_of_none e hD)]
    exact s.1 _ _ e
  · rw [upd_same, take_snoc' hj, List.map_append]
    rfl
theorem x_forL {K : PySem.W.Frag} {te : TE} {g : TG} {tb : TS} {D : Ends} {σ : L2.St} {H : Hp} : tFor (iList K te) g tb D σ H = te σ H (fun v H1 => tFor (iList K (tC v)) g tb D σ H1) := rfl
theorem x_revL {K : PySem.W.Frag} {te : TE} {σ : L2.St} {H : Hp} {Q : VK} : tRevL K te σ H Q = te σ H (fun x H1 => ∃ a xs, x = .ref a ∧ SqL K H1 a xs ∧ ∀ p, H1 p = none → Q (.ref p) (upd H1 p (.lst xs.reverse))) := rfl
/-- an int's text, of any length -/
def spWint : Sp := fun vs H Q _ => ∃ n : Int, vs = [.int n] ∧ Bd 17999 n ∧ ∀ (y : Str) (H' : Hp), tl y = intD n → Same H H' → Q (.str y) H'
theorem rev_at {k j : Nat} {x : V} (h : (natL (bps k)).reverse[j]? = some x) : j < k ∧ x = .int ((bp (k - 1 - j) : Nat) : Int) := by
  have hj : j < k := by
    have := (List.getElem?_eq_some_iff.mp h).1
    rw [List.length_reverse, bps_len] at this
    exact this
  refine ⟨hj, ?_⟩
  rw [List.getElem?_reverse (by rw [bps_len]; exact hj), bps_len] at h
  unfold natL bps at h
  rw [List.getElem?_map, List.getElem?_map, List.getElem?_range (by omega)] at h
  exact (Option.some.inj h).symm
def divV (p : Nat) : V → V | .int z => .int (z / (p : Int)) | v => v
def modV (p : Nat) : V → V | .int z => .int (z % (p : Int)) | v => v
theorem natL_split (p : Nat) (bs : List Nat) : (natL bs).flatMap (fun x => [divV p x, modV p x]) = natL (bs.flatMap fun b => [b / p, b % p]) := by
  induction bs with
  | nil => rfl
  | cons b r ih =>
    have e1 : (natL (b :: r)) = .int (b : Int) :: natL r := rfl
    rw [e1, List.flatMap_cons, ih, List.flatMap_cons]
    rfl
theorem natL_at {bs : List Nat} {m : Nat} {x : V} (h : (natL bs)[m]? = some x) : ∃ b, b ∈ bs ∧ x = .int ((b : Nat) : Int) := by
  unfold natL at h
  rw [List.getElem?_map] at h
  cases e : bs[m]? with
  | none => rw [e] at h; cases h
  | some b => rw [e] at h; exact ⟨b, List.mem_of_getElem? e, (Option.some.inj h).symm⟩
theorem natL_mem {bs : List Nat} {x : V} (h : x ∈ natL bs) : ∃ b, b ∈ bs ∧ x = .int ((b : Nat) : Int) := by
  obtain ⟨b, hb, rfl⟩ := List.mem_map.mp h
  exact ⟨b, hb, rfl⟩
/-- a block's text -/
def zf (b : Nat) : Str := Txt.zfill (Str.ofString (toString ((b : Nat) : Int))) 64
def zfV : V → V | .int z => .str (Txt.zfill (Str.ofString (toString z)) 64) | v => v
theorem tl_zf (b : Nat) : tl (zf b) = padD 64 b := by
  unfold zf
  have e : tl (Str.ofString (toString ((b : Nat) : Int))) = numD b := by rw [tl_int, intD_nat]
  have h := tl_zfill (x := Str.ofString (toString ((b : Nat) : Int))) (by rw [e]; exact num_dig b) 64
  rw [e] at h
  exact h
theorem natL_zf (bs : List Nat) : (natL bs).map zfV = (bs.map zf).map V.str := by
  unfold natL
  rw [List.map_map, List.map_map]
  rfl
theorem flat2 {p : Nat} {bs : List Nat} {c : Nat} (h : c ∈ bs.flatMap fun b => [b / p, b % p]) : ∃ b, b ∈ bs ∧ (c = b / p ∨ c = b % p) := by
  obtain ⟨b, hb, hc⟩ := List.mem_flatMap.mp h
  refine ⟨b, hb, ?_⟩
  simpa using hc
theorem flat2_len {p : Nat} (bs : List Nat) : (bs.flatMap fun b => [b / p, b % p]).length = 2 * bs.length := by
  induction bs with
  | nil => rfl
  | cons b r ih =>
    rw [List.flatMap_cons, List.length_append, ih, List.length_cons, List.length_cons, List.length_cons, List.length_nil]
    omega
def t_nwint (P : Program) (K : PySem.W.Frag) (mg : Str → Option Value) (C Z D BN : Addr) (E : XK) : TS :=
    (tSeq (tIfS (tTest (tOp (rI0 fun i j => .bl (decide (i < j))) (tCB rAbs1 (tCons (tVar 0) tNil)) (tC (.int (10 ^ 64))))) (tRet (tCB rStrI (tCons (tVar 0) tNil))) tNext)
    (tSeq (tAsg (tLst (tCons (tCB rAbs1 (tCons (tVar 0) tNil)) tNil)) (gName 1))
    (tSeq (tFor (iList K (tRevL K (tCall spPowers [] E0 (tCons (tCB rAbs1 (tCons (tVar 0) tNil)) tNil)))) (gName 2) ((tAsg (tLc2 (iList K (tVar 1)) (gName 4) tYes (iTup K (tCB rDivW (tCons (tVar 4) (tCons (tVar 2) tNil)))) (gName 5) tYes (tVar 5) [4, 5] [5]) (gName 1))))
    (tSeq (tAsg (tM1 rLstT (tM1 (rJoinT K) (tC (.str "")) (tLc (iList K (tVar 1)) (gName 4) tYes (tM1 rZfT (tCB rStrI (tCons (tVar 4) tNil)) (tC (.int 64))) [4])) (tC (.str "0"))) (gName 3))
    (tRet (tIf (tTest (tOp (rI0 fun i j => .bl (decide (i < j))) (tVar 0) (tC (.int 0)))) (tJn ((tC (.str "-")) :: (tFmt (tVar 3)) :: [])) (tVar 3)))))))
theorem pure_nwint {P0 : Program} {K : PySem.W.Frag} {mg : Str → Option Value} {C Z D BN : Addr} (vs : List V) (H : Hp) (Q : VK) (E : XK) (h : spWint vs H Q E) : t_nwint P0 K mg C Z D BN E { nx := fun _ H' => Q .non H', rt := Q } (start ["number", "blocks", "power", "digits", "block", "half"] vs) H := by
  obtain ⟨n, rfl, hn, k⟩ := h
  show t_nwint P0 K mg C Z D BN E _ [some (.int n), none, none, none, none, none] H
  have big : ∀ n : Nat, n ≤ 100000 → n ≤ sizeLine := fun n hn => Nat.le_trans hn (by decide)
  unfold t_nwint
  rw [x_seq]
  simp only [x_if, x_test, x_B, x_op, x_un, x_varS, x_var0, x_c, x_I0, x_I, x_U, x_bl, x_ret, x_next, x_eqS, x_neS, x_m0, x_m1, x_isStr, x_SM, x_addT, x_slS, x_lenS, x_strI, x_mulS, x_startT, x_findT, x_preT, x_lstT, x_ascT, x_digT, x_jn, x_js0, x_js1, x_isS, x_fmt, x_fmtS, x_divW, x_truK, x_truS, x_raiseT, x_asg, x_name, x_set0, x_setS, x_drop, x_cb, x_cons, x_nil, x_int1, x_abs1, x_max2, x_gcd, x_gsub, x_sl, x_part, x_nopart, x_int, x_call, x_lst, x_tup, x_not, x_and, x_or, x_andV, x_orV, x_notV, x_ifE, x_eqI, x_neI, x_eqB, x_neB, x_tbm, x_never, x_make, x_meth, x_isII, x_isIC, x_bool1, decide_eq_true_eq, Bool.false_eq_true, if_false, if_true, List.append_nil, List.nil_append, List.cons_append, abs_if, bp0]
  have h900 : bp 0 ≤ 2 ^ 900 := by decide +kernel
  have hb0 : bp 0 = 10 ^ 64 := by decide +kernel
  generalize bp 0 = b0 at h900 hb0 ⊢
  refine ite2 (fun hlt => ?_) fun hge => ?_
  · have h1 := h900
    refine ⟨log1920 ?_, k _ _ (tl_int n) fun _ _ e => e⟩
    exact Nat.lt_of_lt_of_le (Int.ofNat_lt.mp hlt) h1
  have hm : n.natAbs < 2 ^ 17999 := hn
  have hm1 : b0 ≤ n.natAbs := Int.ofNat_le.mp (Int.not_lt.mp hge)
  rw [x_seq]
  simp only [x_if, x_test, x_B, x_op, x_un, x_varS, x_var0, x_c, x_I0, x_I, x_U, x_bl, x_ret, x_next, x_eqS, x_neS, x_m0, x_m1, x_isStr, x_SM, x_addT, x_slS, x_lenS, x_strI, x_mulS, x_startT, x_findT, x_preT, x_lstT, x_ascT, x_digT, x_jn, x_js0, x_js1, x_isS, x_fmt, x_fmtS, x_divW, x_truK, x_truS, x_raiseT, x_asg, x_name, x_set0, x_setS, x_drop, x_cb, x_cons, x_nil, x_int1, x_abs1, x_max2, x_gcd, x_gsub, x_sl, x_part, x_nopart, x_int, x_call, x_lst, x_tup, x_not, x_and, x_or, x_andV, x_orV, x_notV, x_ifE, x_eqI, x_neI, x_eqB, x_neB, x_tbm, x_never, x_make, x_meth, x_isII, x_isIC, x_bool1, decide_eq_true_eq, Bool.false_eq_true, if_false, if_true, List.append_nil, List.nil_append, List.cons_append, abs_if]
  refine ⟨big _ (by show 1 ≤ 100000; decide), fun p hp => ?_⟩
  have s1 : Same H (upd H p (.lst [.int (n.natAbs : Int)])) := Same.new hp
  have e1 : (upd H p (.lst [.int (n.natAbs : Int)])) p = some (.lst (natL [n.natAbs])) := upd_same
  generalize (upd H p (.lst [.int (n.natAbs : Int)])) = H1 at s1 e1 ⊢
  generalize hnm : n.natAbs = m at hm hm1 e1 ⊢
  rw [x_seq, x_forL]
  simp only [x_if, x_test, x_B, x_op, x_un, x_varS, x_var0, x_c, x_I0, x_I, x_U, x_bl, x_ret, x_next, x_eqS, x_neS, x_m0, x_m1, x_isStr, x_SM, x_addT, x_slS, x_lenS, x_strI, x_mulS, x_startT, x_findT, x_preT, x_lstT, x_ascT, x_digT, x_jn, x_js0, x_js1, x_isS, x_fmt, x_fmtS, x_divW, x_truK, x_truS, x_raiseT, x_asg, x_name, x_set0, x_setS, x_drop, x_cb, x_cons, x_nil, x_int1, x_abs1, x_max2, x_gcd, x_gsub, x_sl, x_part, x_nopart, x_int, x_call, x_lst, x_tup, x_not, x_and, x_or, x_andV, x_orV, x_notV, x_ifE, x_eqI, x_neI, x_eqB, x_neB, x_tbm, x_never, x_make, x_meth, x_isII, x_isIC, x_bool1, decide_eq_true_eq, Bool.false_eq_true, if_false, if_true, List.append_nil, List.nil_append, List.cons_append, x_revL, abs_if]
  rw [hnm]
  refine ⟨m, rfl, hm, fun pp kk H2 hpw e2 s2 => ⟨pp, _, rfl, SqL.at e2, fun q hq => ?_⟩⟩
  have s3 : Same H2 (upd H2 q (.lst (natL (bps kk)).reverse)) := Same.new hq
  have e3 : (upd H2 q (.lst (natL (bps kk)).reverse)) q = some (.lst (natL (bps kk)).reverse) := upd_same
  have e1 := s3 _ _ (s2 _ _ e1)
  generalize (upd H2 q (.lst (natL (bps kk)).reverse)) = H3 at s3 e3 e1 ⊢
  have sH := (s1.trans s2).trans s3
  clear s1 s2 s3 e2
  have hk7 : kk ≤ 7 := by
    by_cases h : 8 ≤ kk
    · exact absurd (pw_small hm (hpw.1 7 (by omega))) (by decide)
    · omega
  refine for_lstV (a := q) (xs := (natL (bps kk)).reverse) (fun Q => rfl) (fun j σ H' => j ≤ kk ∧ ∃ (b : Addr) (bs : List Nat) (u : Option V), σ = [some (.int n), some (.ref b), u, none, none, none] ∧ H' b = some (.lst (natL bs)) ∧ bs.length = 2 ^ j ∧
      (∀ x ∈ bs, x < bp (kk - j) ∧ x < 2 ^ 17999) ∧ val (bp (kk - j)) bs = m ∧ Same H3 H')
    ⟨Nat.zero_le _, p, [m], none, rfl, e1, rfl, fun x hx => by rw [List.mem_singleton.mp hx]; exact ⟨hpw.2, hm⟩, by unfold val; simp, fun _ _ e => e⟩ (fun j σ H' _ hh => by obtain ⟨_, _, _, _, _, _, _, _, _, s⟩ := hh; exact s _ _ e3) ?_ ?_
  · rintro j x σ H' hx ⟨_, b, bs, u, rfl, eb, hbl, hbs, hv, s⟩
    obtain ⟨hj, rfl⟩ := rev_at hx
    have hi : kk - j = (kk - 1 - j) + 1 := by omega
    have hj6 : 2 ^ j ≤ 64 := by
      have : 2 ^ j ≤ 2 ^ 6 := Nat.pow_le_pow_right (by decide) (by omega)
      omega
    rw [hi, bp_succ] at hv hbs
    have hi6 : kk - 1 - j ≤ 6 := by omega
    have hip := bp_pos (kk - 1 - j)
    generalize hP : kk - 1 - j = i at *
    simp only [x_if, x_test, x_B, x_op, x_un, x_varS, x_var0, x_c, x_I0, x_I, x_U, x_bl, x_ret, x_next, x_eqS, x_neS, x_m0, x_m1, x_isStr, x_SM, x_addT, x_slS, x_lenS, x_strI, x_mulS, x_startT, x_findT, x_preT, x_lstT, x_ascT, x_digT, x_jn, x_js0, x_js1, x_isS, x_fmt, x_fmtS, x_divW, x_truK, x_truS, x_raiseT, x_asg, x_name, x_set0, x_setS, x_drop, x_cb, x_cons, x_nil, x_int1, x_abs1, x_max2, x_gcd, x_gsub, x_sl, x_part, x_nopart, x_int, x_call, x_lst, x_tup, x_not, x_and, x_or, x_andV, x_orV, x_notV, x_ifE, x_eqI, x_neI, x_eqB, x_neB, x_tbm, x_never, x_make, x_meth, x_isII, x_isIC, x_bool1, decide_eq_true_eq, Bool.false_eq_true, if_false, if_true, List.append_nil, List.nil_append, List.cons_append]
    refine lc2_pairs (divV (bp i)) (modV (bp i)) (fun Q => by simp only [x_if, x_test, x_B, x_op, x_un, x_varS, x_var0, x_c, x_I0, x_I, x_U, x_bl, x_ret, x_next, x_eqS, x_neS, x_m0, x_m1, x_isStr, x_SM, x_addT, x_slS, x_lenS, x_strI, x_mulS, x_startT, x_findT, x_preT, x_lstT, x_ascT, x_digT, x_jn, x_js0, x_js1, x_isS, x_fmt, x_fmtS, x_divW, x_truK, x_truS, x_raiseT, x_asg, x_name, x_set0, x_setS, x_drop, x_cb, x_cons, x_nil, x_int1, x_abs1, x_max2, x_gcd, x_gsub, x_sl, x_part, x_nopart, x_int, x_call, x_lst, x_tup, x_not, x_and, x_or, x_andV, x_orV, x_notV, x_ifE, x_eqI, x_neI, x_eqB, x_neB, x_tbm, x_never, x_make, x_meth, x_isII, x_isIC, x_bool1, decide_eq_true_eq, Bool.false_eq_true, if_false, if_true, List.append_nil, List.nil_append, List.cons_append]) eb (by unfold natL; rw [List.length_map, hbl]; omega) (fun x => rfl) (fun x y => rfl) (fun x y H' QQ q => ⟨y, rfl, q⟩) (fun mm x H'' QQ hx s2 kk2 => ?_) fun D H'' s2 eD => ?_
    · obtain ⟨c, hc, rfl⟩ := natL_at hx
      show tCB rDivW (tCons (tVar 4) (tCons (tVar 2) tNil)) [some (.int n), some (.ref b), some (.int ((bp i : Nat) : Int)), none, some (.int (c : Int)), none] H'' QQ
      simp only [x_if, x_test, x_B, x_op, x_un, x_varS, x_var0, x_c, x_I0, x_I, x_U, x_bl, x_ret, x_next, x_eqS, x_neS, x_m0, x_m1, x_isStr, x_SM, x_addT, x_slS, x_lenS, x_strI, x_mulS, x_startT, x_findT, x_preT, x_lstT, x_ascT, x_digT, x_jn, x_js0, x_js1, x_isS, x_fmt, x_fmtS, x_divW, x_truK, x_truS, x_raiseT, x_asg, x_name, x_set0, x_setS, x_drop, x_cb, x_cons, x_nil, x_int1, x_abs1, x_max2, x_gcd, x_gsub, x_sl, x_part, x_nopart, x_int, x_call, x_lst, x_tup, x_not, x_and, x_or, x_andV, x_orV, x_notV, x_ifE, x_eqI, x_neI, x_eqB, x_neB, x_tbm, x_never, x_make, x_meth, x_isII, x_isIC, x_bool1, decide_eq_true_eq, Bool.false_eq_true, if_false, if_true, List.append_nil, List.nil_append, List.cons_append]
      exact ⟨div_bp (hbs c hc).2 hi6, kk2⟩
    · rw [natL_split] at eD
      refine ⟨by omega, D, _, _, rfl, eD, ?_, fun c hc => ?_, ?_, s.trans s2⟩
      · rw [flat2_len, hbl, Nat.pow_succ]
        omega
      · have e : kk - (j + 1) = i := by omega
        rw [e]
        obtain ⟨y, hy, h | h⟩ := flat2 hc
        · rw [h]
          exact ⟨Nat.div_lt_of_lt_mul (hbs y hy).1, Nat.lt_of_le_of_lt (Nat.div_le_self _ _) (hbs y hy).2⟩
        · rw [h]
          exact ⟨Nat.mod_lt _ hip, Nat.lt_of_le_of_lt (Nat.mod_le _ _) (hbs y hy).2⟩
      · have e : kk - (j + 1) = i := by omega
        rw [e, val_split]
        exact hv
  · rintro σ H' ⟨_, b, bs, u, rfl, eb, hbl, hbs, hv, s⟩
    have hlen : (natL (bps kk)).reverse.length = kk := by rw [List.length_reverse, bps_len]
    rw [hlen] at hbl hbs hv
    rw [Nat.sub_self] at hbs hv
    have hl7 : 2 ^ kk ≤ 128 := by
      have : 2 ^ kk ≤ 2 ^ 7 := Nat.pow_le_pow_right (by decide) hk7
      omega
    have hb00 : bp 0 = 10 ^ 64 := by decide +kernel
    rw [hb00] at hbs hv
    rw [hb0] at hm1
    dsimp only
    rw [x_seq]
    simp only [x_if, x_test, x_B, x_op, x_un, x_varS, x_var0, x_c, x_I0, x_I, x_U, x_bl, x_ret, x_next, x_eqS, x_neS, x_m0, x_m1, x_isStr, x_SM, x_addT, x_slS, x_lenS, x_strI, x_mulS, x_startT, x_findT, x_preT, x_lstT, x_ascT, x_digT, x_jn, x_js0, x_js1, x_isS, x_fmt, x_fmtS, x_divW, x_truK, x_truS, x_raiseT, x_asg, x_name, x_set0, x_setS, x_drop, x_cb, x_cons, x_nil, x_int1, x_abs1, x_max2, x_gcd, x_gsub, x_sl, x_part, x_nopart, x_int, x_call, x_lst, x_tup, x_not, x_and, x_or, x_andV, x_orV, x_notV, x_ifE, x_eqI, x_neI, x_eqB, x_neB, x_tbm, x_never, x_make, x_meth, x_isII, x_isIC, x_bool1, decide_eq_true_eq, Bool.false_eq_true, if_false, if_true, List.append_nil, List.nil_append, List.cons_append]
    refine lc_mapL zfV (fun Q => by simp only [x_if, x_test, x_B, x_op, x_un, x_varS, x_var0, x_c, x_I0, x_I, x_U, x_bl, x_ret, x_next, x_eqS, x_neS, x_m0, x_m1, x_isStr, x_SM, x_addT, x_slS, x_lenS, x_strI, x_mulS, x_startT, x_findT, x_preT, x_lstT, x_ascT, x_digT, x_jn, x_js0, x_js1, x_isS, x_fmt, x_fmtS, x_divW, x_truK, x_truS, x_raiseT, x_asg, x_name, x_set0, x_setS, x_drop, x_cb, x_cons, x_nil, x_int1, x_abs1, x_max2, x_gcd, x_gsub, x_sl, x_part, x_nopart, x_int, x_call, x_lst, x_tup, x_not, x_and, x_or, x_andV, x_orV, x_notV, x_ifE, x_eqI, x_neI, x_eqB, x_neB, x_tbm, x_never, x_make, x_meth, x_isII, x_isIC, x_bool1, decide_eq_true_eq, Bool.false_eq_true, if_false, if_true, List.append_nil, List.nil_append, List.cons_append]) eb (by unfold natL; rw [List.length_map, hbl]; omega) (fun x H'' QQ hx s2 kk2 => ?_) fun D H'' s2 eD => ?_
    · obtain ⟨c, hc, rfl⟩ := natL_mem hx
      show tM1 rZfT (tCB rStrI (tCons (tVar 4) tNil)) (tC (.int 64)) [some (.int n), some (.ref b), u, none, some (.int (c : Int)), none] H'' QQ
      simp only [x_if, x_test, x_B, x_op, x_un, x_varS, x_var0, x_c, x_I0, x_I, x_U, x_bl, x_ret, x_next, x_eqS, x_neS, x_m0, x_m1, x_isStr, x_SM, x_addT, x_slS, x_lenS, x_strI, x_mulS, x_startT, x_findT, x_preT, x_lstT, x_ascT, x_digT, x_jn, x_js0, x_js1, x_isS, x_fmt, x_fmtS, x_divW, x_truK, x_truS, x_raiseT, x_asg, x_name, x_set0, x_setS, x_drop, x_cb, x_cons, x_nil, x_int1, x_abs1, x_max2, x_gcd, x_gsub, x_sl, x_part, x_nopart, x_int, x_call, x_lst, x_tup, x_not, x_and, x_or, x_andV, x_orV, x_notV, x_ifE, x_eqI, x_neI, x_eqB, x_neB, x_tbm, x_never, x_make, x_meth, x_isII, x_isIC, x_bool1, decide_eq_true_eq, Bool.false_eq_true, if_false, if_true, List.append_nil, List.nil_append, List.cons_append]
      refine ⟨log1920 ?_, ?_⟩
      · have h1 : 10 ^ 64 ≤ 2 ^ 900 := by decide +kernel
        unfold Bd
        rw [Int.natAbs_natCast]
        exact Nat.lt_of_lt_of_le (hbs c hc).1 h1
      · rw [x_zfT rfl]
        exact kk2
    · rw [natL_zf] at eD
      have sum_len : ∀ l : List Nat, (∀ x ∈ l, x < 10 ^ 64) → ((l.map zf).map (·.length)).sum = 64 * l.length := fun l hl => by
        induction l with
        | nil => rfl
        | cons a r ih =>
          rw [List.map_cons, List.map_cons, List.sum_cons, ih (fun x hx => hl x (List.mem_cons_of_mem _ hx)), List.length_cons, tl_len, tl_zf, padD_len (by decide) (hl a List.mem_cons_self)]
          omega
      have hsum := sum_len bs fun x hx => (hbs x hx).1
      have l0 : ("" : Str).length = 0 := by decide +kernel
      refine ⟨_, D, bs.map zf, rfl, rfl, .inl (SqL.at eD), by rw [hsum, hbl, l0, Nat.mul_zero]; omega, ?_⟩
      have hj : tl (Txt.join "" (bs.map zf)) = (bs.map (padD 64)).flatten := by
        rw [empty_lit, tl_join0, List.map_map]
        congr 1
        exact List.map_congr_left fun b _ => tl_zf b
      have hjl : (Txt.join "" (bs.map zf)).length ≤ 10000 := by
        rw [tl_len, hj, List.length_flatten]
        have : ((bs.map (padD 64)).map List.length) = ((bs.map zf).map (·.length)) := by
          rw [List.map_map, List.map_map]
          refine List.map_congr_left fun b _ => ?_
          show (padD 64 b).length = (zf b).length
          rw [tl_len, tl_zf]
        rw [this, hsum, hbl]
        omega
      have hd : tl (Txt.lstripChars (Txt.join "" (bs.map zf)) "0") = numD m := by
        rw [tl_lstrip0, hj]
        have hval := val_pad (k := 64) (by decide) bs fun x hx => (hbs x hx).1
        rw [hv] at hval
        rw [drop_num (pad_dig bs) (by rw [hval]; exact Nat.le_trans (Nat.pow_pos (by decide)) hm1), hval]
      have hdl : (Txt.lstripChars (Txt.join "" (bs.map zf)) "0").length ≤ 10000 := by
        rw [tl_len, hd]
        have := (List.dropWhile_suffix (l := tl (Txt.join "" (bs.map zf))) (· == 48)).length_le
        rw [← tl_lstrip0, hd, ← tl_len] at this
        omega
      refine ⟨⟨_, rfl⟩, ?_⟩
      rw [x_lstT]
      refine ⟨big _ (by omega), ?_⟩
      generalize Txt.lstripChars (Txt.join "" (bs.map zf)) "0" = W at hd hdl ⊢
      have sA : Same H H'' := (sH.trans s).trans s2
      refine ite2 (fun hneg => ?_) fun hneg => ?_
      · refine ⟨by decide +kernel, .inl ⟨_, rfl, big _ (by omega), ?_, k _ _ ?_ sA⟩⟩
        · rw [add_len, add_len]
          have : ("-" : Str).length = 1 := by decide +kernel
          have : Str.empty.length = 0 := rfl
          exact big _ (by omega)
        · rw [TL.tl_append, TL.tl_append, tl_empty, tl_minus, hd]
          unfold intD
          rw [if_pos hneg, hnm]
          rfl
      · refine k _ _ ?_ sA
        rw [hd]
        unfold intD
        rw [if_neg hneg, hnm]
        rfl
end SpX

set_option Elab.async false
set_option linter.all false
set_option maxRecDepth 100000
set_option maxHeartbeats 2000000
set_option exponentiation.threshold 20000
/-! Law k01: the program's own reading and writing. -/
namespace SpX
open PySem PySem.Spec NumText L2
open TL (tl)
def spCount : Sp := fun vs H Q _ => ∃ a : Str, vs = [.str a] ∧ a.length ≤ sizeLine ∧ Q (.bl (cnt (tl a))) H
theorem count_of {a : Str} {H : Hp} {Q : VK} {E : XK} (h : a.length ≤ sizeLine) (k : Q (.bl (cnt (tl a))) H) : spCount [.str a] H Q E := ⟨a, rfl, h, k⟩
def t_ncount (P : Program) (K : PySem.W.Frag) (mg : Str → Option Value) (C Z D BN : Addr) (E : XK) : TS :=
    (tRet (tAndV (tOp (rI0 fun i j => .bl (decide (i ≤ j))) (tCB rLenT (tCons (tVar 0) tNil)) (tC (.int 60))) (tAndV (tM0 rAscT (tVar 0)) (tM0 rDigT (tVar 0)))))
theorem pure_ncount {P0 : Program} {K : PySem.W.Frag} {mg : Str → Option Value} {C Z D BN : Addr} (vs : List V) (H : Hp) (Q : VK) (E : XK) (h : spCount vs H Q E) : t_ncount P0 K mg C Z D BN E { nx := fun _ H' => Q .non H', rt := Q } (start ["text"] vs) H := by
  obtain ⟨a, rfl, hz, k⟩ := h
  show t_ncount P0 K mg C Z D BN E _ [some (.str a)] H
  unfold t_ncount
  simp only [x_seq, x_if, x_test, x_B, x_op, x_un, x_varS, x_var0, x_c, x_I0, x_I, x_U, x_bl, x_ret, x_next, x_eqS, x_neS, x_m0, x_m1, x_isStr, x_SM, x_addT, x_slS, x_lenS, x_strI, x_mulS, x_startT, x_findT, x_preT, x_lstT, x_ascT, x_digT, x_jn, x_js0, x_js1, x_isS, x_fmt, x_fmtS, x_divW, x_truK, x_truS, x_raiseT, x_asg, x_name, x_set0, x_setS, x_drop, x_cb, x_cons, x_nil, x_int1, x_abs1, x_max2, x_gcd, x_gsub, x_sl, x_part, x_nopart, x_int, x_call, x_lst, x_tup, x_not, x_and, x_or, x_andV, x_orV, x_notV, x_ifE, x_eqI, x_neI, x_eqB, x_neB, x_tbm, x_never, x_make, x_meth, x_isII, x_isIC, x_bool1, decide_eq_true_eq, Bool.false_eq_true, if_false, if_true, List.append_nil, List.nil_append, List.cons_append]
  obtain ⟨d1, d2⟩ := isdigit_ascii a
  unfold cnt at k
  have hl := tl_len a
  refine ⟨hz, ite2 (fun h1 => ?_) fun h1 => ?_⟩
  · rw [decide_eq_true (by omega), Bool.true_and] at k
    cases ha : Txt.isascii a with
    | true =>
      rw [if_pos rfl, d1 ha]
      exact k
    | false =>
      rw [if_neg (by decide)]
      rw [d2 ha] at k
      exact k
  · rw [decide_eq_false (by omega), Bool.false_and] at k
    exact k
def spStr (C : Addr) : Sp := fun vs H Q _ => ∃ (p : Addr) (t b : Int), vs = [.ref p] ∧ RatAt C H p t b ∧ 0 < b ∧ Bd 17999 t ∧ Bd 17999 b ∧ ∀ (y : Str) (H' : Hp), tl y = written t b → Same H H' → Q (.str y) H'
theorem wint_of {n : Int} {H : Hp} {Q : VK} {E : XK} (h : Bd 17999 n) (k : ∀ (y : Str) (H' : Hp), tl y = intD n → Same H H' → Q (.str y) H') : spWint [.int n] H Q E := ⟨n, rfl, h, k⟩
theorem intD_big {a : Int} (h : Bd 17999 a) : (intD a).length ≤ 6001 := intD_len2 (k := 6000) h (by decide) (by decide)
theorem fmt_str {y : Str} {H : Hp} {R : Str → Hp → Prop} (h : y.length ≤ sizeLine) (k : R y H) : (∃ z : Str, V.str y = .str z ∧ z.length ≤ sizeLine ∧ R z H) ∨ ∃ i : Int, V.str y = .int i ∧ i.natAbs.log2 < 1920 ∧ R (toString i) H := .inl ⟨y, rfl, h, k⟩
def t_nstr (P : Program) (K : PySem.W.Frag) (mg : Str → Option Value) (C Z D BN : Addr) (E : XK) : TS :=
    (tSeq (tIfS (tTest (tOp rEq (tUn (rFld C "bottom") (tVar 0)) (tC (.int 1)))) (tRet (tFmt (tCall spWint [] E0 (tCons (tUn (rFld C "top") (tVar 0)) tNil)))) tNext)
    (tRet (tJn ((tFmt (tCall spWint [] E0 (tCons (tUn (rFld C "top") (tVar 0)) tNil))) :: (tC (.str "/")) :: (tFmt (tCall spWint [] E0 (tCons (tUn (rFld C "bottom") (tVar 0)) tNil))) :: []))))
theorem pure_nstr {P0 : Program} {K : PySem.W.Frag} {mg : Str → Option Value} {C Z D BN : Addr} (vs : List V) (H : Hp) (Q : VK) (E : XK) (h : spStr C vs H Q E) : t_nstr P0 K mg C Z D BN E { nx := fun _ H' => Q .non H', rt := Q } (start ["self"] vs) H := by
  obtain ⟨p, t, b, rfl, ⟨dx, hp⟩, hb, bt, bb, k⟩ := h
  show t_nstr P0 K mg C Z D BN E _ [some (.ref p)] H
  have big : ∀ n : Nat, n ≤ 100000 → n ≤ sizeLine := fun n hn => Nat.le_trans hn (by decide)
  have lt := intD_big bt
  have lb := intD_big bb
  unfold t_nstr
  simp only [x_seq, x_if, x_test, x_B, x_op, x_un, x_varS, x_var0, x_c, x_I0, x_I, x_U, x_bl, x_ret, x_next, x_eqS, x_neS, x_m0, x_m1, x_isStr, x_SM, x_addT, x_slS, x_lenS, x_strI, x_mulS, x_startT, x_findT, x_preT, x_lstT, x_ascT, x_digT, x_jn, x_js0, x_js1, x_isS, x_fmt, x_fmtS, x_divW, x_truK, x_truS, x_raiseT, x_asg, x_name, x_set0, x_setS, x_drop, x_cb, x_cons, x_nil, x_int1, x_abs1, x_max2, x_gcd, x_gsub, x_sl, x_part, x_nopart, x_int, x_call, x_lst, x_tup, x_not, x_and, x_or, x_andV, x_orV, x_notV, x_ifE, x_eqI, x_neI, x_eqB, x_neB, x_tbm, x_never, x_make, x_meth, x_isII, x_isIC, x_bool1, decide_eq_true_eq, Bool.false_eq_true, if_false, if_true, List.append_nil, List.nil_append, List.cons_append, x_bot hp, x_top hp]
  refine ite2 (fun h1 => ?_) fun h1 => ?_
  · subst h1
    refine wint_of bt fun y H1 hy s1 => .inl ⟨y, rfl, big _ (by rw [tl_len, hy]; omega), k y H1 (by rw [hy, written_1]) s1⟩
  · refine wint_of bt fun y H1 hy s1 => .inl ⟨y, rfl, big _ (by rw [tl_len, hy]; omega), ?_⟩
    have hp1 := s1 _ _ hp
    have ly : y.length ≤ 6001 := by
      rw [tl_len, hy]
      exact lt
    have l_s : ("/" : Str).length = 1 := by decide +kernel
    have l_e : Str.empty.length = 0 := rfl
    simp only [x_seq, x_if, x_test, x_B, x_op, x_un, x_varS, x_var0, x_c, x_I0, x_I, x_U, x_bl, x_ret, x_next, x_eqS, x_neS, x_m0, x_m1, x_isStr, x_SM, x_addT, x_slS, x_lenS, x_strI, x_mulS, x_startT, x_findT, x_preT, x_lstT, x_ascT, x_digT, x_jn, x_js0, x_js1, x_isS, x_fmt, x_fmtS, x_divW, x_truK, x_truS, x_raiseT, x_asg, x_name, x_set0, x_setS, x_drop, x_cb, x_cons, x_nil, x_int1, x_abs1, x_max2, x_gcd, x_gsub, x_sl, x_part, x_nopart, x_int, x_call, x_lst, x_tup, x_not, x_and, x_or, x_andV, x_orV, x_notV, x_ifE, x_eqI, x_neI, x_eqB, x_neB, x_tbm, x_never, x_make, x_meth, x_isII, x_isIC, x_bool1, decide_eq_true_eq, Bool.false_eq_true, if_false, if_true, List.append_nil, List.nil_append, List.cons_append, x_bot hp1]
    refine ⟨big _ (by rw [add_len]; omega), big _ (by rw [add_len, add_len]; omega), wint_of bb fun z H2 hz s2 => .inl ⟨z, rfl, big _ (by rw [tl_len, hz]; omega), big _ ?_, k _ H2 ?_ (s1.trans s2)⟩⟩
    · rw [add_len, add_len, add_len, tl_len z, hz]
      omega
    · rw [TL.tl_append, TL.tl_append, TL.tl_append, tl_empty, hy, tl_slash, hz, written_n h1, int_pos hb, List.nil_append, List.append_assoc]
      rfl
theorem make_at {C Z p dx : Addr} {H : Hp} {Q : Hp → Prop} {E : XK} {x y : Int} (bx : Bd 8000 x) (by' : Bd 8000 y) (hy : y ≠ 0) (np : H p = none) (nd : H dx = none) (ne : dx ≠ p) (k : ∀ H' n d, RatAt C H' p n d → Norm n d x y → Same H H' → Q H') :
    spInit C Z [.ref p, .int x, .int y] (upd (upd H dx (.own p)) p (.ins C dx [])) (fun v H2 => v = .non ∧ Q H2) E := by
  refine ⟨p, dx, x, y, rfl, upd_same, fun _ => Nat.lt_of_le_of_lt (Nat.gcd_le_right _ (by omega)) by', fun e => absurd e hy, fun _ t b hn => ⟨rfl, ?_⟩⟩
  refine k _ t b ⟨dx, upd_same⟩ hn fun c o e => ?_
  rw [upd_ne (ne_of_none e np), upd_ne (ne_of_none e np), upd_ne (ne_of_none e nd)]
  exact e
/-- the number that the text is, or the refusal -/
def spRead (C BN : Addr) : Sp := fun vs H Q E => ∃ a : Str, vs = [.str a] ∧ a.length ≤ sizeLine ∧ match numOf (tl a) with
  | some (t, b) => ∀ (r : Addr) (H' : Hp), RatAt C H' r t b → Same H H' → Q (.ref r) H'
  | none => ∀ (d : Addr) (H' : Hp), H' d = some (.xd [("text", .str a)]) → Same H H' → E (.ref BN) (some d) H'
theorem x_ownStr {C p dx : Addr} {fs : List (Str × V)} {sp : Sp} {E : XK} {H : Hp} {Q : VK} (h : H p = some (.ins C dx fs)) : rOwnStr C sp E [.ref p] H Q = sp [.ref p] H (fun v H' => ∃ y : Str, v = .str y ∧ Q v H') E := propext (Iff.intro
  (fun ⟨_, _, _, e1, _, q⟩ => by cases e1; exact q) (fun q => ⟨_, _, _, rfl, h, q⟩))
theorem slash_len' : (("/" : Str).length == 0) = false := by decide +kernel
theorem x_par {a : Str} {H : Hp} {Q : VK} : rParT (.str a) [.str "/"] H Q = (a.length ≤ sizeLine ∧ ∀ p, H p = none → Q (.ref p) (upd H p (.tup [.str (Txt.partition a "/").1, .str (Txt.partition a "/").2.1, .str (Txt.partition a "/").2.2]))) := x_parT slash_len'
theorem x_tup3 {K : PySem.W.Frag} {p : Addr} {u v w : V} {i j k : Nat} {σ : L2.St} {H : Hp} {Q : L2.St → Hp → Prop} (h : H p = some (.tup [u, v, w])) (k1 : Q (((σ.set i (some u)).set j (some v)).set k (some w)) H) : gTup K 3 (gCons (gName i) (gCons (gName j) (gCons (gName k) gNil))) (.ref p) σ H Q :=
  ⟨p, _, rfl, SqT.at h, rfl, _, _, rfl, _, _, rfl, _, _, rfl, rfl, k1⟩
theorem cnt_digits {l : List Nat} (h : cnt l = true) : AllDigits l ∧ l ≠ [] ∧ l.length ≤ 60 := by
  obtain ⟨h1, h2, h3⟩ := cnt_iff.mp h
  exact ⟨h3, h2, h1⟩
theorem int_cnt {x : Str} {H : Hp} {Q : VK} (h : cnt (tl x) = true) : rIntT [.str x] H Q = Q (.int ((digitsVal (tl x) : Nat) : Int)) H := by
  obtain ⟨h1, h2, h3⟩ := cnt_digits h
  exact x_intT (int_digits h1 h2 (by omega)) (by rw [tl_len]; omega)
def t_nread_2 (P : Program) (K : PySem.W.Frag) (mg : Str → Option Value) (C Z D BN : Addr) (E : XK) : TS :=
    (tSeq (tIfS (tOr (tNot (tB (tCall spCount [] E0 (tCons (tVar 3) tNil)))) (tOr (tNot (tB (tCall spCount [] E0 (tCons (tVar 5) tNil)))) (tTest (tOp rEq (tCB rIntT (tCons (tVar 5) tNil)) (tC (.int 0)))))) (tRaiseT P K mg D BN (fun cls d _ H => E cls d H) (tVar 0)) tNext)
    (tSeq (tAsg (tMake C (spInit C Z) [] E (tCons (tCB rIntT (tCons (tVar 3) tNil)) (tCons (tCB rIntT (tCons (tVar 5) tNil)) tNil))) (gName 1))
    (tSeq (tAsg (tIf (tB (tM1 rStartT (tVar 0) (tC (.str "-")))) (tUn (rOwnU C (spUn C (fun t => -t)) E0) (tVar 1)) (tVar 1)) (gName 2))
    (tSeq (tIfS (tTest (tOp rNe (tCB (rOwnStr C (spStr C) E0) (tCons (tVar 2) tNil)) (tVar 0))) (tRaiseT P K mg D BN (fun cls d _ H => E cls d H) (tVar 0)) tNext)
    (tRet (tVar 2))))))
def t_nread (P : Program) (K : PySem.W.Frag) (mg : Str → Option Value) (C Z D BN : Addr) (E : XK) : TS :=
    (tSeq (tAsg (tM1 rParT (tM1 rPreT (tVar 0) (tC (.str "-"))) (tC (.str "/"))) (gTup K 3 (gCons (gName 3) (gCons (gName 4) (gCons (gName 5) gNil)))))
    (tSeq (tIfS (tNot (tTruK K (tVar 4))) (tAsg (tC (.str "1")) (gName 5)) tNext)
    (tSeq (tIfS (tOr (tNot (tB (tCall spCount [] E0 (tCons (tVar 3) tNil)))) (tOr (tNot (tB (tCall spCount [] E0 (tCons (tVar 5) tNil)))) (tTest (tOp rEq (tCB rIntT (tCons (tVar 5) tNil)) (tC (.int 0)))))) (tRaiseT P K mg D BN (fun cls d _ H => E cls d H) (tVar 0)) tNext)
    (tSeq (tAsg (tMake C (spInit C Z) [] E (tCons (tCB rIntT (tCons (tVar 3) tNil)) (tCons (tCB rIntT (tCons (tVar 5) tNil)) tNil))) (gName 1))
    (tSeq (tAsg (tIf (tB (tM1 rStartT (tVar 0) (tC (.str "-")))) (tUn (rOwnU C (spUn C (fun t => -t)) E0) (tVar 1)) (tVar 1)) (gName 2))
    (tSeq (tIfS (tTest (tOp rNe (tCB (rOwnStr C (spStr C) E0) (tCons (tVar 2) tNil)) (tVar 0))) (tRaiseT P K mg D BN (fun cls d _ H => E cls d H) (tVar 0)) tNext)
    (tRet (tVar 2))))))))
theorem pure_nread {P0 : Program} {K : PySem.W.Frag} {mg : Str → Option Value} {C Z D BN fI : Addr} (TE : TxtE P0 K mg D BN fI) (vs : List V) (H : Hp) (Q : VK) (E : XK) (h : spRead C BN vs H Q E) : t_nread P0 K mg C Z D BN E { nx := fun _ H' => Q .non H', rt := Q } (start ["text", "size", "number", "top", "slash", "bottom"] vs) H := by
  obtain ⟨a, rfl, hz, k⟩ := h
  show t_nread P0 K mg C Z D BN E _ [some (.str a), none, none, none, none, none] H
  have raise : ∀ H1, Same H H1 → numOf (tl a) = none → rTail P0 K mg D BN (fun cls d H' => E cls d H') (.str a) H1 := fun H1 s e => by
    rw [e] at k
    exact tail_of TE fun d hd => k d _ upd_same (s.trans (Same.new hd))
  -- behind the parts
  have rest : ∀ (A S B : Str) (H1 : Hp), Same H H1 → tl A = partA (tl a) → tl B = partB (tl a) → A.length ≤ sizeLine → B.length ≤ sizeLine →
      t_nread_2 P0 K mg C Z D BN E { nx := fun _ H' => Q .non H', rt := Q } [some (.str a), none, none, some (.str A), some (.str S), some (.str B)] H1 := by
    intro A S B H1 s1 hA hB lA lB
    unfold t_nread_2
    simp only [x_seq, x_if, x_test, x_B, x_op, x_un, x_varS, x_var0, x_c, x_I0, x_I, x_U, x_bl, x_ret, x_next, x_eqS, x_neS, x_m0, x_m1, x_isStr, x_SM, x_addT, x_slS, x_lenS, x_strI, x_mulS, x_startT, x_findT, x_preT, x_lstT, x_ascT, x_digT, x_jn, x_js0, x_js1, x_isS, x_fmt, x_fmtS, x_divW, x_truK, x_truS, x_raiseT, x_asg, x_name, x_set0, x_setS, x_drop, x_cb, x_cons, x_nil, x_int1, x_abs1, x_max2, x_gcd, x_gsub, x_sl, x_part, x_nopart, x_int, x_call, x_lst, x_tup, x_not, x_and, x_or, x_andV, x_orV, x_notV, x_ifE, x_eqI, x_neI, x_eqB, x_neB, x_tbm, x_never, x_make, x_meth, x_isII, x_isIC, x_bool1, decide_eq_true_eq, Bool.false_eq_true, if_false, if_true, List.append_nil, List.nil_append, List.cons_append]
    refine count_of lA ?_
    rw [hA]
    simp only [x_seq, x_if, x_test, x_B, x_op, x_un, x_varS, x_var0, x_c, x_I0, x_I, x_U, x_bl, x_ret, x_next, x_eqS, x_neS, x_m0, x_m1, x_isStr, x_SM, x_addT, x_slS, x_lenS, x_strI, x_mulS, x_startT, x_findT, x_preT, x_lstT, x_ascT, x_digT, x_jn, x_js0, x_js1, x_isS, x_fmt, x_fmtS, x_divW, x_truK, x_truS, x_raiseT, x_asg, x_name, x_set0, x_setS, x_drop, x_cb, x_cons, x_nil, x_int1, x_abs1, x_max2, x_gcd, x_gsub, x_sl, x_part, x_nopart, x_int, x_call, x_lst, x_tup, x_not, x_and, x_or, x_andV, x_orV, x_notV, x_ifE, x_eqI, x_neI, x_eqB, x_neB, x_tbm, x_never, x_make, x_meth, x_isII, x_isIC, x_bool1, decide_eq_true_eq, Bool.false_eq_true, if_false, if_true, List.append_nil, List.nil_append, List.cons_append]
    cases hc1 : cnt (partA (tl a)) with
    | false =>
      simp only [x_seq, x_if, x_test, x_B, x_op, x_un, x_varS, x_var0, x_c, x_I0, x_I, x_U, x_bl, x_ret, x_next, x_eqS, x_neS, x_m0, x_m1, x_isStr, x_SM, x_addT, x_slS, x_lenS, x_strI, x_mulS, x_startT, x_findT, x_preT, x_lstT, x_ascT, x_digT, x_jn, x_js0, x_js1, x_isS, x_fmt, x_fmtS, x_divW, x_truK, x_truS, x_raiseT, x_asg, x_name, x_set0, x_setS, x_drop, x_cb, x_cons, x_nil, x_int1, x_abs1, x_max2, x_gcd, x_gsub, x_sl, x_part, x_nopart, x_int, x_call, x_lst, x_tup, x_not, x_and, x_or, x_andV, x_orV, x_notV, x_ifE, x_eqI, x_neI, x_eqB, x_neB, x_tbm, x_never, x_make, x_meth, x_isII, x_isIC, x_bool1, decide_eq_true_eq, Bool.false_eq_true, if_false, if_true, List.append_nil, List.nil_append, List.cons_append, Bool.not_false]
      exact raise H1 s1 (numOf_bad (.inl hc1))
    | true =>
      simp only [x_seq, x_if, x_test, x_B, x_op, x_un, x_varS, x_var0, x_c, x_I0, x_I, x_U, x_bl, x_ret, x_next, x_eqS, x_neS, x_m0, x_m1, x_isStr, x_SM, x_addT, x_slS, x_lenS, x_strI, x_mulS, x_startT, x_findT, x_preT, x_lstT, x_ascT, x_digT, x_jn, x_js0, x_js1, x_isS, x_fmt, x_fmtS, x_divW, x_truK, x_truS, x_raiseT, x_asg, x_name, x_set0, x_setS, x_drop, x_cb, x_cons, x_nil, x_int1, x_abs1, x_max2, x_gcd, x_gsub, x_sl, x_part, x_nopart, x_int, x_call, x_lst, x_tup, x_not, x_and, x_or, x_andV, x_orV, x_notV, x_ifE, x_eqI, x_neI, x_eqB, x_neB, x_tbm, x_never, x_make, x_meth, x_isII, x_isIC, x_bool1, decide_eq_true_eq, Bool.false_eq_true, if_false, if_true, List.append_nil, List.nil_append, List.cons_append, Bool.not_true]
      refine count_of lB ?_
      rw [hB]
      simp only [x_seq, x_if, x_test, x_B, x_op, x_un, x_varS, x_var0, x_c, x_I0, x_I, x_U, x_bl, x_ret, x_next, x_eqS, x_neS, x_m0, x_m1, x_isStr, x_SM, x_addT, x_slS, x_lenS, x_strI, x_mulS, x_startT, x_findT, x_preT, x_lstT, x_ascT, x_digT, x_jn, x_js0, x_js1, x_isS, x_fmt, x_fmtS, x_divW, x_truK, x_truS, x_raiseT, x_asg, x_name, x_set0, x_setS, x_drop, x_cb, x_cons, x_nil, x_int1, x_abs1, x_max2, x_gcd, x_gsub, x_sl, x_part, x_nopart, x_int, x_call, x_lst, x_tup, x_not, x_and, x_or, x_andV, x_orV, x_notV, x_ifE, x_eqI, x_neI, x_eqB, x_neB, x_tbm, x_never, x_make, x_meth, x_isII, x_isIC, x_bool1, decide_eq_true_eq, Bool.false_eq_true, if_false, if_true, List.append_nil, List.nil_append, List.cons_append]
      cases hc2 : cnt (partB (tl a)) with
      | false =>
        simp only [x_seq, x_if, x_test, x_B, x_op, x_un, x_varS, x_var0, x_c, x_I0, x_I, x_U, x_bl, x_ret, x_next, x_eqS, x_neS, x_m0, x_m1, x_isStr, x_SM, x_addT, x_slS, x_lenS, x_strI, x_mulS, x_startT, x_findT, x_preT, x_lstT, x_ascT, x_digT, x_jn, x_js0, x_js1, x_isS, x_fmt, x_fmtS, x_divW, x_truK, x_truS, x_raiseT, x_asg, x_name, x_set0, x_setS, x_drop, x_cb, x_cons, x_nil, x_int1, x_abs1, x_max2, x_gcd, x_gsub, x_sl, x_part, x_nopart, x_int, x_call, x_lst, x_tup, x_not, x_and, x_or, x_andV, x_orV, x_notV, x_ifE, x_eqI, x_neI, x_eqB, x_neB, x_tbm, x_never, x_make, x_meth, x_isII, x_isIC, x_bool1, decide_eq_true_eq, Bool.false_eq_true, if_false, if_true, List.append_nil, List.nil_append, List.cons_append, Bool.not_false]
        exact raise H1 s1 (numOf_bad (.inr (.inl hc2)))
      | true =>
        have i1 := fun (H : Hp) (Q : VK) => int_cnt (x := A) (H := H) (Q := Q) (by rw [hA]; exact hc1)
        have i2 := fun (H : Hp) (Q : VK) => int_cnt (x := B) (H := H) (Q := Q) (by rw [hB]; exact hc2)
        rw [hA] at i1
        rw [hB] at i2
        have v1 := cnt_lt hc1
        have v2 := cnt_lt hc2
        have ag := fun {t b : Int} (h0 : digitsVal (partB (tl a)) ≠ 0) (hn : Norm t b (sgn (tl a) (digitsVal (partA (tl a)))) (digitsVal (partB (tl a)) : Nat)) => numOf_again hc1 hc2 h0 hn
        have bad0 := fun (h : digitsVal (partB (tl a)) = 0) => numOf_bad (.inr (.inr h))
        simp only [x_seq, x_if, x_test, x_B, x_op, x_un, x_varS, x_var0, x_c, x_I0, x_I, x_U, x_bl, x_ret, x_next, x_eqS, x_neS, x_m0, x_m1, x_isStr, x_SM, x_addT, x_slS, x_lenS, x_strI, x_mulS, x_startT, x_findT, x_preT, x_lstT, x_ascT, x_digT, x_jn, x_js0, x_js1, x_isS, x_fmt, x_fmtS, x_divW, x_truK, x_truS, x_raiseT, x_asg, x_name, x_set0, x_setS, x_drop, x_cb, x_cons, x_nil, x_int1, x_abs1, x_max2, x_gcd, x_gsub, x_sl, x_part, x_nopart, x_int, x_call, x_lst, x_tup, x_not, x_and, x_or, x_andV, x_orV, x_notV, x_ifE, x_eqI, x_neI, x_eqB, x_neB, x_tbm, x_never, x_make, x_meth, x_isII, x_isIC, x_bool1, decide_eq_true_eq, Bool.false_eq_true, if_false, if_true, List.append_nil, List.nil_append, List.cons_append, Bool.not_true, i2, i1]
        generalize digitsVal (partA (tl a)) = N at v1 ag ⊢
        generalize digitsVal (partB (tl a)) = M at v2 ag bad0 ⊢
        refine ite2 (fun h0 => ?_) fun h0 => ?_
        · exact raise H1 s1 (bad0 (by omega))
        have hM : M ≠ 0 := by omega
        have bN : Bd 200 (N : Int) := by
          unfold Bd
          rw [Int.natAbs_natCast]
          exact Nat.lt_of_lt_of_le v1 le60
        have bM : Bd 200 (M : Int) := by
          unfold Bd
          rw [Int.natAbs_natCast]
          exact Nat.lt_of_lt_of_le v2 le60
        refine fun r dd m1 m2 m3 => make_at (bN.mono (by decide)) (bM.mono (by decide)) (by omega) m1 m2 m3 fun H2 t b hr hn s2 => ?_
        obtain ⟨dx, hr'⟩ := id hr
        -- written again
        have fin : ∀ (r : Addr) (H3 : Hp) (t b : Int), RatAt C H3 r t b → Norm t b (sgn (tl a) N) (M : Int) → Same H H3 →
            rOwnStr C (spStr C) E0 [.ref r] H3 (fun x H1 => rNe x (.str a) H1 fun x H' => ∃ k, x = .bl k ∧ if k = true then rTail P0 K mg D BN (fun cls d H'_1 => E cls d H'_1) (.str a) H' else Q (.ref r) H') := by
          intro r H3 t b hr hn s3
          obtain ⟨dx, hr'⟩ := id hr
          have l := hn.le (by omega)
          rw [sgn_abs, Int.natAbs_natCast] at l
          rw [x_ownStr hr']
          have bt : Bd 200 t := Nat.lt_of_le_of_lt l.1 (by rw [← Int.natAbs_natCast N]; exact bN)
          have bb : Bd 200 b := Nat.lt_of_le_of_lt l.2 (by rw [← Int.natAbs_natCast M]; exact bM)
          refine ⟨r, t, b, rfl, hr, hn.pos, bt.mono (by decide), bb.mono (by decide), fun y H4 hy s4 => ⟨y, rfl, ?_⟩⟩
          have e := ag hM hn
          simp only [x_seq, x_if, x_test, x_B, x_op, x_un, x_varS, x_var0, x_c, x_I0, x_I, x_U, x_bl, x_ret, x_next, x_eqS, x_neS, x_m0, x_m1, x_isStr, x_SM, x_addT, x_slS, x_lenS, x_strI, x_mulS, x_startT, x_findT, x_preT, x_lstT, x_ascT, x_digT, x_jn, x_js0, x_js1, x_isS, x_fmt, x_fmtS, x_divW, x_truK, x_truS, x_raiseT, x_asg, x_name, x_set0, x_setS, x_drop, x_cb, x_cons, x_nil, x_int1, x_abs1, x_max2, x_gcd, x_gsub, x_sl, x_part, x_nopart, x_int, x_call, x_lst, x_tup, x_not, x_and, x_or, x_andV, x_orV, x_notV, x_ifE, x_eqI, x_neI, x_eqB, x_neB, x_tbm, x_never, x_make, x_meth, x_isII, x_isIC, x_bool1, decide_eq_true_eq, Bool.false_eq_true, if_false, if_true, List.append_nil, List.nil_append, List.cons_append]
          rw [dec_str, hy]
          by_cases hw : written t b = tl a
          · rw [if_pos hw] at e
            rw [e] at k
            rw [decide_eq_true hw]
            exact k r H4 (hr.same s4) (s3.trans s4)
          · rw [if_neg hw] at e
            rw [decide_eq_false hw]
            exact raise H4 (s3.trans s4) e
        simp only [x_seq, x_if, x_test, x_B, x_op, x_un, x_varS, x_var0, x_c, x_I0, x_I, x_U, x_bl, x_ret, x_next, x_eqS, x_neS, x_m0, x_m1, x_isStr, x_SM, x_addT, x_slS, x_lenS, x_strI, x_mulS, x_startT, x_findT, x_preT, x_lstT, x_ascT, x_digT, x_jn, x_js0, x_js1, x_isS, x_fmt, x_fmtS, x_divW, x_truK, x_truS, x_raiseT, x_asg, x_name, x_set0, x_setS, x_drop, x_cb, x_cons, x_nil, x_int1, x_abs1, x_max2, x_gcd, x_gsub, x_sl, x_part, x_nopart, x_int, x_call, x_lst, x_tup, x_not, x_and, x_or, x_andV, x_orV, x_notV, x_ifE, x_eqI, x_neI, x_eqB, x_neB, x_tbm, x_never, x_make, x_meth, x_isII, x_isIC, x_bool1, decide_eq_true_eq, Bool.false_eq_true, if_false, if_true, List.append_nil, List.nil_append, List.cons_append, startswith_minus]
        cases hneg : neg? (tl a) with
        | true =>
          simp only [x_seq, x_if, x_test, x_B, x_op, x_un, x_varS, x_var0, x_c, x_I0, x_I, x_U, x_bl, x_ret, x_next, x_eqS, x_neS, x_m0, x_m1, x_isStr, x_SM, x_addT, x_slS, x_lenS, x_strI, x_mulS, x_startT, x_findT, x_preT, x_lstT, x_ascT, x_digT, x_jn, x_js0, x_js1, x_isS, x_fmt, x_fmtS, x_divW, x_truK, x_truS, x_raiseT, x_asg, x_name, x_set0, x_setS, x_drop, x_cb, x_cons, x_nil, x_int1, x_abs1, x_max2, x_gcd, x_gsub, x_sl, x_part, x_nopart, x_int, x_call, x_lst, x_tup, x_not, x_and, x_or, x_andV, x_orV, x_notV, x_ifE, x_eqI, x_neI, x_eqB, x_neB, x_tbm, x_never, x_make, x_meth, x_isII, x_isIC, x_bool1, decide_eq_true_eq, Bool.false_eq_true, if_false, if_true, List.append_nil, List.nil_append, List.cons_append]
          rw [x_ownU hr']
          refine ⟨r, t, b, rfl, hr, hn.low, ?_, ?_, fun r2 H3 n d hr2 hn2 s3 => ?_⟩
          · have l := hn.le (by omega)
            exact (bN.of l.1).mono (by decide)
          · have l := hn.le (by omega)
            exact (bM.of l.2).mono (by decide)
          · simp only [x_seq, x_if, x_test, x_B, x_op, x_un, x_varS, x_var0, x_c, x_I0, x_I, x_U, x_bl, x_ret, x_next, x_eqS, x_neS, x_m0, x_m1, x_isStr, x_SM, x_addT, x_slS, x_lenS, x_strI, x_mulS, x_startT, x_findT, x_preT, x_lstT, x_ascT, x_digT, x_jn, x_js0, x_js1, x_isS, x_fmt, x_fmtS, x_divW, x_truK, x_truS, x_raiseT, x_asg, x_name, x_set0, x_setS, x_drop, x_cb, x_cons, x_nil, x_int1, x_abs1, x_max2, x_gcd, x_gsub, x_sl, x_part, x_nopart, x_int, x_call, x_lst, x_tup, x_not, x_and, x_or, x_andV, x_orV, x_notV, x_ifE, x_eqI, x_neI, x_eqB, x_neB, x_tbm, x_never, x_make, x_meth, x_isII, x_isIC, x_bool1, decide_eq_true_eq, Bool.false_eq_true, if_false, if_true, List.append_nil, List.nil_append, List.cons_append]
            refine fin r2 H3 n d hr2 ?_ ((s1.trans s2).trans s3)
            have hs : sgn (tl a) N = -(N : Int) := by
              unfold sgn
              rw [if_pos hneg]
            rw [hs]
            refine hn2.cross hn.low.nz ?_
            have q := hn.eq
            rw [Int.neg_mul, Int.neg_mul, q]
        | false =>
          simp only [x_seq, x_if, x_test, x_B, x_op, x_un, x_varS, x_var0, x_c, x_I0, x_I, x_U, x_bl, x_ret, x_next, x_eqS, x_neS, x_m0, x_m1, x_isStr, x_SM, x_addT, x_slS, x_lenS, x_strI, x_mulS, x_startT, x_findT, x_preT, x_lstT, x_ascT, x_digT, x_jn, x_js0, x_js1, x_isS, x_fmt, x_fmtS, x_divW, x_truK, x_truS, x_raiseT, x_asg, x_name, x_set0, x_setS, x_drop, x_cb, x_cons, x_nil, x_int1, x_abs1, x_max2, x_gcd, x_gsub, x_sl, x_part, x_nopart, x_int, x_call, x_lst, x_tup, x_not, x_and, x_or, x_andV, x_orV, x_notV, x_ifE, x_eqI, x_neI, x_eqB, x_neB, x_tbm, x_never, x_make, x_meth, x_isII, x_isIC, x_bool1, decide_eq_true_eq, Bool.false_eq_true, if_false, if_true, List.append_nil, List.nil_append, List.cons_append]
          refine fin r H2 t b hr ?_ (s1.trans s2)
          have hs : sgn (tl a) N = (N : Int) := by
            unfold sgn
            rw [if_neg (by rw [hneg]; decide)]
          rw [hs]
          exact hn
  unfold t_nread
  rw [x_seq]
  simp only [x_if, x_test, x_B, x_op, x_un, x_varS, x_var0, x_c, x_I0, x_I, x_U, x_bl, x_ret, x_next, x_eqS, x_neS, x_m0, x_m1, x_isStr, x_SM, x_addT, x_slS, x_lenS, x_strI, x_mulS, x_startT, x_findT, x_preT, x_lstT, x_ascT, x_digT, x_jn, x_js0, x_js1, x_isS, x_fmt, x_fmtS, x_divW, x_truK, x_truS, x_raiseT, x_asg, x_name, x_set0, x_setS, x_drop, x_cb, x_cons, x_nil, x_int1, x_abs1, x_max2, x_gcd, x_gsub, x_sl, x_part, x_nopart, x_int, x_call, x_lst, x_tup, x_not, x_and, x_or, x_andV, x_orV, x_notV, x_ifE, x_eqI, x_neI, x_eqB, x_neB, x_tbm, x_never, x_make, x_meth, x_isII, x_isIC, x_bool1, decide_eq_true_eq, Bool.false_eq_true, if_false, if_true, List.append_nil, List.nil_append, List.cons_append, x_par]
  have lp : (Txt.removeprefix a "-").length ≤ a.length := by
    rw [tl_len, removeprefix_minus, tl_len a]
    exact body_len _
  refine ⟨hz, Nat.le_trans lp hz, fun p hp => x_tup3 upd_same ?_⟩
  have s1 : Same H (upd H p (.tup [.str (Txt.partition (Txt.removeprefix a "-") "/").1, .str (Txt.partition (Txt.removeprefix a "-") "/").2.1, .str (Txt.partition (Txt.removeprefix a "-") "/").2.2])) := Same.new hp
  generalize (upd H p (.tup [.str (Txt.partition (Txt.removeprefix a "-") "/").1, .str (Txt.partition (Txt.removeprefix a "-") "/").2.1, .str (Txt.partition (Txt.removeprefix a "-") "/").2.2])) = H1 at s1 ⊢
  have hpt := partition_slash (Txt.removeprefix a "-")
  rw [removeprefix_minus] at hpt
  have hbk := part47_back (body (tl a))
  have hbl : (body (tl a)).length ≤ sizeLine := by
    rw [← removeprefix_minus, ← tl_len]
    exact Nat.le_trans lp hz
  simp only [x_set0, x_setS]
  rw [x_seq]
  cases e : part47 (body (tl a)) with
  | mk x o =>
    rw [e] at hpt hbk
    have pA : partA (tl a) = x := by
      unfold partA
      rw [e]
    cases o with
    | none =>
      dsimp only at hpt hbk
      rw [List.append_nil] at hbk
      have pB : partB (tl a) = [49] := by
        unfold partB
        rw [e]
      rw [hpt]
      have te : Str.empty.length = 0 := rfl
      simp only [x_if, x_test, x_B, x_op, x_un, x_varS, x_var0, x_c, x_I0, x_I, x_U, x_bl, x_ret, x_next, x_eqS, x_neS, x_m0, x_m1, x_isStr, x_SM, x_addT, x_slS, x_lenS, x_strI, x_mulS, x_startT, x_findT, x_preT, x_lstT, x_ascT, x_digT, x_jn, x_js0, x_js1, x_isS, x_fmt, x_fmtS, x_divW, x_truK, x_truS, x_raiseT, x_asg, x_name, x_set0, x_setS, x_drop, x_cb, x_cons, x_nil, x_int1, x_abs1, x_max2, x_gcd, x_gsub, x_sl, x_part, x_nopart, x_int, x_call, x_lst, x_tup, x_not, x_and, x_or, x_andV, x_orV, x_notV, x_ifE, x_eqI, x_neI, x_eqB, x_neB, x_tbm, x_never, x_make, x_meth, x_isII, x_isIC, x_bool1, decide_eq_true_eq, Bool.false_eq_true, if_false, if_true, List.append_nil, List.nil_append, List.cons_append, te]
      refine ⟨Nat.zero_le _, ?_⟩
      refine rest _ _ _ _ s1 ?_ ?_ (Nat.le_trans lp hz) (by decide +kernel)
      · rw [removeprefix_minus, pA]
        exact hbk.1
      · rw [pB]
        decide +kernel
    | some r =>
      dsimp only at hpt hbk
      obtain ⟨q1, q2, q3⟩ := hpt
      have pB : partB (tl a) = r := by
        unfold partB
        rw [e]
      have lens := congrArg List.length hbk.1
      rw [List.length_append, List.length_cons] at lens
      rw [q2]
      have tsl : ("/" : Str).length = 1 := by decide +kernel
      simp only [x_if, x_test, x_B, x_op, x_un, x_varS, x_var0, x_c, x_I0, x_I, x_U, x_bl, x_ret, x_next, x_eqS, x_neS, x_m0, x_m1, x_isStr, x_SM, x_addT, x_slS, x_lenS, x_strI, x_mulS, x_startT, x_findT, x_preT, x_lstT, x_ascT, x_digT, x_jn, x_js0, x_js1, x_isS, x_fmt, x_fmtS, x_divW, x_truK, x_truS, x_raiseT, x_asg, x_name, x_set0, x_setS, x_drop, x_cb, x_cons, x_nil, x_int1, x_abs1, x_max2, x_gcd, x_gsub, x_sl, x_part, x_nopart, x_int, x_call, x_lst, x_tup, x_not, x_and, x_or, x_andV, x_orV, x_notV, x_ifE, x_eqI, x_neI, x_eqB, x_neB, x_tbm, x_never, x_make, x_meth, x_isII, x_isIC, x_bool1, decide_eq_true_eq, Bool.false_eq_true, if_false, if_true, List.append_nil, List.nil_append, List.cons_append, tsl]
      refine ⟨by decide, ?_⟩
      refine rest _ _ _ _ s1 ?_ ?_ ?_ ?_
      · rw [q1, pA]
      · rw [q3, pB]
      · rw [tl_len, q1]
        omega
      · rw [tl_len, q3]
        omega
end SpX

set_option Elab.async false
set_option linter.all false
/-! == of lists with any texts in them. -/
namespace SpX
open PySem PySem.Spec L2
def rEqP (K : PySem.W.Frag) : R2 := fun x y H Q => ∃ d e, Dp K H x d ∧ Dp K H y e ∧ PyData.plain d = true ∧ PyData.plain e = true ∧ d.depth ≤ 64 ∧ Q (.bl (PyData.eqv d e)) H
theorem op_eqP {X : Cx} (hu : X.A.units + 64 < cLine) : OpR X (compareOp .Eq) (rEqP X.K) := by
  intro pins s σ H x y v u Q I rx ry h
  obtain ⟨d, e, hd, he, sd, se, l, q⟩ := h
  obtain ⟨as, r1⟩ := Dp.reads I d x v hd rx
  obtain ⟨bs, r2⟩ := Dp.reads I e y u he ry
  exact SeqAt.eq_plain r1 r2 sd se (by omega) ⟨.bl _, H, I, rfl, q⟩
theorem pl5 {a b c d : Bool} {e : Str} : PyData.plain (.list [.bool a, .bool b, .bool c, .bool d, .str e]) = true := rfl
theorem dp5 {a b c d : Bool} {e : Str} : PyData.depth (.list [.bool a, .bool b, .bool c, .bool d, .str e]) ≤ 64 := by
  simp [PyData.depth, PyData.depthAll]
end SpX

set_option Elab.async false
set_option linter.all false
set_option maxRecDepth 100000
set_option maxHeartbeats 4000000
set_option exponentiation.threshold 20000
/-! Law k01: the law's own text. -/
namespace SpX
open PySem PySem.Spec NumText L2
open TL (tl)
def spRightT (C : Addr) : Sp := fun vs H Q _ => ∃ (p o : Addr) (t b : Int) (y : Str), vs = [.ref p, .ref o, .str y] ∧ RatAt C H p t b ∧ TupAt H o t b ∧ 0 < b ∧ Bd 900 t ∧ Bd 900 b ∧ tl y = written t b ∧ ∀ H', Same H H' → Q (.bl true) H'
def t_nright (P : Program) (K : PySem.W.Frag) (mg : Str → Option Value) (C Z D BN : Addr) (E : XK) : TS :=
    (tSeq (tIfS (tOr (tNot (tB (tCB (rIsA C) (tCons (tVar 0) (tCons (tC (.ref C)) tNil))))) (tOr (tNot (tB (tCall spInteger [] E0 (tCons (tUn (rFld C "top") (tVar 0)) tNil)))) (tNot (tB (tCall spInteger [] E0 (tCons (tUn (rFld C "bottom") (tVar 0)) tNil)))))) (tRet (tC (.bl false))) tNext)
    (tRet (tAndV (tOp rEq (tUn (rFld C "top") (tVar 0)) (tOp rIx1 (tVar 1) (tC (.int 0)))) (tAndV (tOp rEq (tUn (rFld C "bottom") (tVar 0)) (tOp rIx1 (tVar 1) (tC (.int 1)))) (tOp rEq (tCB (rOwnStr C (spStr C) E0) (tCons (tVar 0) tNil)) (tVar 2))))))
theorem pure_nright {P0 : Program} {K : PySem.W.Frag} {mg : Str → Option Value} {C Z D BN : Addr} (vs : List V) (H : Hp) (Q : VK) (E : XK) (h : spRightT C vs H Q E) : t_nright P0 K mg C Z D BN E { nx := fun _ H' => Q .non H', rt := Q } (start ["told", "due", "text"] vs) H := by
  obtain ⟨p, o, t, b, y, rfl, ⟨dx, hp⟩, ho, hb, bt, bb, hy, k⟩ := h
  show t_nright P0 K mg C Z D BN E _ [some (.ref p), some (.ref o), some (.str y)] H
  unfold t_nright
  simp only [x_seq, x_if, x_test, x_B, x_op, x_un, x_varS, x_var0, x_c, x_I0, x_I, x_U, x_bl, x_ret, x_next, x_eqS, x_neS, x_m0, x_m1, x_isStr, x_SM, x_addT, x_slS, x_lenS, x_strI, x_mulS, x_startT, x_findT, x_preT, x_lstT, x_ascT, x_digT, x_jn, x_js0, x_js1, x_isS, x_fmt, x_fmtS, x_divW, x_truK, x_truS, x_raiseT, x_asg, x_name, x_set0, x_setS, x_drop, x_cb, x_cons, x_nil, x_int1, x_abs1, x_max2, x_gcd, x_gsub, x_sl, x_part, x_nopart, x_int, x_call, x_lst, x_tup, x_not, x_and, x_or, x_andV, x_orV, x_notV, x_ifE, x_eqI, x_neI, x_eqB, x_neB, x_tbm, x_never, x_make, x_meth, x_isII, x_isIC, x_bool1, decide_eq_true_eq, Bool.false_eq_true, if_false, if_true, List.append_nil, List.nil_append, List.cons_append, x_isRC hp, x_top hp, x_bot hp, x_ixT ho at0, x_ixT ho at1, Bool.not_true]
  refine int_of ?_
  simp only [x_seq, x_if, x_test, x_B, x_op, x_un, x_varS, x_var0, x_c, x_I0, x_I, x_U, x_bl, x_ret, x_next, x_eqS, x_neS, x_m0, x_m1, x_isStr, x_SM, x_addT, x_slS, x_lenS, x_strI, x_mulS, x_startT, x_findT, x_preT, x_lstT, x_ascT, x_digT, x_jn, x_js0, x_js1, x_isS, x_fmt, x_fmtS, x_divW, x_truK, x_truS, x_raiseT, x_asg, x_name, x_set0, x_setS, x_drop, x_cb, x_cons, x_nil, x_int1, x_abs1, x_max2, x_gcd, x_gsub, x_sl, x_part, x_nopart, x_int, x_call, x_lst, x_tup, x_not, x_and, x_or, x_andV, x_orV, x_notV, x_ifE, x_eqI, x_neI, x_eqB, x_neB, x_tbm, x_never, x_make, x_meth, x_isII, x_isIC, x_bool1, decide_eq_true_eq, Bool.false_eq_true, if_false, if_true, List.append_nil, List.nil_append, List.cons_append, x_isRC hp, x_top hp, x_bot hp, x_ixT ho at0, x_ixT ho at1, Bool.not_true]
  refine int_of ?_
  simp only [x_seq, x_if, x_test, x_B, x_op, x_un, x_varS, x_var0, x_c, x_I0, x_I, x_U, x_bl, x_ret, x_next, x_eqS, x_neS, x_m0, x_m1, x_isStr, x_SM, x_addT, x_slS, x_lenS, x_strI, x_mulS, x_startT, x_findT, x_preT, x_lstT, x_ascT, x_digT, x_jn, x_js0, x_js1, x_isS, x_fmt, x_fmtS, x_divW, x_truK, x_truS, x_raiseT, x_asg, x_name, x_set0, x_setS, x_drop, x_cb, x_cons, x_nil, x_int1, x_abs1, x_max2, x_gcd, x_gsub, x_sl, x_part, x_nopart, x_int, x_call, x_lst, x_tup, x_not, x_and, x_or, x_andV, x_orV, x_notV, x_ifE, x_eqI, x_neI, x_eqB, x_neB, x_tbm, x_never, x_make, x_meth, x_isII, x_isIC, x_bool1, decide_eq_true_eq, Bool.false_eq_true, if_false, if_true, List.append_nil, List.nil_append, List.cons_append, x_isRC hp, x_top hp, x_bot hp, x_ixT ho at0, x_ixT ho at1, Bool.not_true, decide_true, x_ownStr hp]
  refine ⟨p, t, b, rfl, ⟨dx, hp⟩, hb, bt.mono (by decide), bb.mono (by decide), fun z H1 hz s1 => ⟨z, rfl, ?_⟩⟩
  simp only [x_seq, x_if, x_test, x_B, x_op, x_un, x_varS, x_var0, x_c, x_I0, x_I, x_U, x_bl, x_ret, x_next, x_eqS, x_neS, x_m0, x_m1, x_isStr, x_SM, x_addT, x_slS, x_lenS, x_strI, x_mulS, x_startT, x_findT, x_preT, x_lstT, x_ascT, x_digT, x_jn, x_js0, x_js1, x_isS, x_fmt, x_fmtS, x_divW, x_truK, x_truS, x_raiseT, x_asg, x_name, x_set0, x_setS, x_drop, x_cb, x_cons, x_nil, x_int1, x_abs1, x_max2, x_gcd, x_gsub, x_sl, x_part, x_nopart, x_int, x_call, x_lst, x_tup, x_not, x_and, x_or, x_andV, x_orV, x_notV, x_ifE, x_eqI, x_neI, x_eqB, x_neB, x_tbm, x_never, x_make, x_meth, x_isII, x_isIC, x_bool1, decide_eq_true_eq, Bool.false_eq_true, if_false, if_true, List.append_nil, List.nil_append, List.cons_append]
  rw [dec_str, hz, hy, decide_eq_true rfl]
  exact k H1 s1
/-! ### what is read -/
def spReads (C : Addr) : Sp := fun vs H Q _ => ∃ (a : Str) (due : V), vs = [.str a, due] ∧ a.length ≤ 100000 ∧ (match numOf (tl a) with | none => due = .non | some (t, b) => ∃ o, due = .ref o ∧ TupAt H o t b) ∧ ∀ H', Same H H' → Q (.bl true) H'
def t_ntryb (C BN : Addr) (W : WX) : TS := tAsg (tSM (spRead C BN) (WE W) (tCons (tVar 0) tNil)) (gName 2)
def isE (K : PySem.W.Frag) (BN a : Addr) (cls : Value) (d : Option Addr) (v : V) : TE := tCB (rCaughtD K BN a cls d) (tCons (tVar 4) (tCons (tC v) tNil))
def t_ncaught (K : PySem.W.Frag) (BN BP BQ BL BT SE : Addr) (a : Addr) (cls : Value) (d : Option Addr) : TS :=
  tSeq (tAsg (tOrV (isE K BN a cls d (.ref BP)) (tOrV (isE K BN a cls d (.ref BQ)) (isE K BN a cls d (.ref BL)))) (gName 5))
  (tAsg (tLst (tCons (isE K BN a cls d (.ref BT)) (tCons (isE K BN a cls d (.ref SE)) (tCons (isE K BN a cls d (.ty "ValueError")) (tCons (tVar 5) (tCons (tXf a cls d BN "text" (tVar 4)) tNil)))))) (gName 3))
def t_ntry (K : PySem.W.Frag) (C BN BP BQ BL BT SE : Addr) : TS := fun D σ H => t_ntryb C BN (wAs K (.ref BN) 4 (t_ncaught K BN BP BQ BL BT SE) (fun _ _ _ _ => False) D) D σ H
theorem x_isNn {ta : TE} {σ : L2.St} {H : Hp} {Q : VK} : tIsN ta σ H Q = ta σ H (fun x H1 => Q (.bl (decide (x = .non))) H1) := rfl
/-- what the text says of the error's classes -/
structure ExcNum (K : PySem.W.Frag) (BN BP BQ BL BT SE : Addr) : Prop where
  cz : ExcC K BN
  is : PySem.W.exmOne K (.ref BN) (.ref BN) = some true
  ve : PySem.W.kitOne K (.ref BN) (.type "ValueError") = some true
  bt : PySem.W.kitOne K (.ref BN) (.ref BT) = some true
  se : PySem.W.kitOne K (.ref BN) (.ref SE) = some true
  bp : PySem.W.kitOne K (.ref BN) (.ref BP) = some false
  bq : PySem.W.kitOne K (.ref BN) (.ref BQ) = some false
  bl : PySem.W.kitOne K (.ref BN) (.ref BL) = some false
theorem isE_of {K : PySem.W.Frag} {BN a c d : Addr} {fs : List (Str × V)} {b : Bool} {σ : L2.St} {H : Hp} {Q : VK} (h4 : σ[4]? = some (some (.ref a))) (ed : H d = some (.xd fs)) (h : PySem.W.kitOne K (.ref BN) (.ref c) = some b) (k : Q (.bl b) H) : isE K BN a (.ref BN) (some d) (.ref c) σ H Q :=
  ⟨_, h4, rfl, ⟨d, fs, rfl, ed⟩, .ref c, .ref c, b, rfl, fun u r => r, h, k⟩
theorem isE_ty {K : PySem.W.Frag} {BN a d : Addr} {c : String} {fs : List (Str × V)} {b : Bool} {σ : L2.St} {H : Hp} {Q : VK} (h4 : σ[4]? = some (some (.ref a))) (ed : H d = some (.xd fs)) (h : PySem.W.kitOne K (.ref BN) (.type c) = some b) (k : Q (.bl b) H) : isE K BN a (.ref BN) (some d) (.ty c) σ H Q :=
  ⟨_, h4, rfl, ⟨d, fs, rfl, ed⟩, .ty c, .type c, b, rfl, fun u r => r, h, k⟩
theorem rightT_of {C p o : Addr} {t b : Int} {y : Str} {H : Hp} {Q : VK} {E : XK} (hr : RatAt C H p t b) (ho : TupAt H o t b) (hb : 0 < b) (bt : Bd 900 t) (bb : Bd 900 b) (hy : tl y = written t b) (k : ∀ H', Same H H' → Q (.bl true) H') : spRightT C [.ref p, .ref o, .str y] H Q E := ⟨p, o, t, b, y, rfl, hr, ho, hb, bt, bb, hy, k⟩
def t_nreads (BP BQ BL BT SE : Addr) (P : Program) (K : PySem.W.Frag) (mg : Str → Option Value) (C Z D BN : Addr) (E : XK) : TS :=
    (tSeq (tAsg (tC .non) (gName 2))
    (tSeq (tAsg (tLst tNil) (gName 3))
    (tSeq (t_ntry K C BN BP BQ BL BT SE)
    (tSeq (tIfS (tB (tIsN (tVar 1))) (tRet (tOp (rEqP K) (tVar 3) (tLst (tCons (tC (.bl true)) (tCons (tC (.bl true)) (tCons (tC (.bl true)) (tCons (tC (.bl false)) (tCons (tVar 0) tNil)))))))) tNext)
    (tRet (tAndV (tOp rEq (tCB rLenA (tCons (tVar 3) tNil)) (tC (.int 0))) (tCall (spRightT C) [] E0 (tCons (tVar 2) (tCons (tVar 1) (tCons (tVar 0) tNil))))))))))
theorem pure_nreads {BP BQ BL BT SE : Addr} {P0 : Program} {K : PySem.W.Frag} {mg : Str → Option Value} {C Z D BN : Addr} (X : ExcNum K BN BP BQ BL BT SE) (vs : List V) (H : Hp) (Q : VK) (E : XK) (h : spReads C vs H Q E) :
    t_nreads BP BQ BL BT SE P0 K mg C Z D BN E { nx := fun _ H' => Q .non H', rt := Q } (start ["text", "due", "told", "kept", "e", "others"] vs) H := by
  obtain ⟨a, due, rfl, hz, hdue, k⟩ := h
  show t_nreads BP BQ BL BT SE P0 K mg C Z D BN E _ [some (.str a), some due, none, none, none, none] H
  unfold t_nreads
  rw [x_seq]
  simp only [x_if, x_test, x_B, x_op, x_un, x_varS, x_var0, x_c, x_I0, x_I, x_U, x_bl, x_ret, x_next, x_eqS, x_neS, x_m0, x_m1, x_isStr, x_SM, x_addT, x_slS, x_lenS, x_strI, x_mulS, x_startT, x_findT, x_preT, x_lstT, x_ascT, x_digT, x_jn, x_js0, x_js1, x_isS, x_fmt, x_fmtS, x_divW, x_truK, x_truS, x_raiseT, x_asg, x_name, x_set0, x_setS, x_drop, x_cb, x_cons, x_nil, x_int1, x_abs1, x_max2, x_gcd, x_gsub, x_sl, x_part, x_nopart, x_int, x_call, x_lst, x_tup, x_not, x_and, x_or, x_andV, x_orV, x_notV, x_ifE, x_eqI, x_neI, x_eqB, x_neB, x_tbm, x_never, x_make, x_meth, x_isII, x_isIC, x_bool1, decide_eq_true_eq, Bool.false_eq_true, if_false, if_true, List.append_nil, List.nil_append, List.cons_append]
  rw [x_seq]
  simp only [x_if, x_test, x_B, x_op, x_un, x_varS, x_var0, x_c, x_I0, x_I, x_U, x_bl, x_ret, x_next, x_eqS, x_neS, x_m0, x_m1, x_isStr, x_SM, x_addT, x_slS, x_lenS, x_strI, x_mulS, x_startT, x_findT, x_preT, x_lstT, x_ascT, x_digT, x_jn, x_js0, x_js1, x_isS, x_fmt, x_fmtS, x_divW, x_truK, x_truS, x_raiseT, x_asg, x_name, x_set0, x_setS, x_drop, x_cb, x_cons, x_nil, x_int1, x_abs1, x_max2, x_gcd, x_gsub, x_sl, x_part, x_nopart, x_int, x_call, x_lst, x_tup, x_not, x_and, x_or, x_andV, x_orV, x_notV, x_ifE, x_eqI, x_neI, x_eqB, x_neB, x_tbm, x_never, x_make, x_meth, x_isII, x_isIC, x_bool1, decide_eq_true_eq, Bool.false_eq_true, if_false, if_true, List.append_nil, List.nil_append, List.cons_append]
  refine ⟨by decide, fun p hp => ?_⟩
  have s0 : Same H (upd H p (.lst [])) := Same.new hp
  have e0 : (upd H p (.lst [])) p = some (.lst []) := upd_same
  generalize (upd H p (.lst [])) = H0 at s0 e0 ⊢
  rw [x_seq]
  unfold t_ntry t_ntryb
  rw [x_asg, x_SM, x_cons, x_var0, x_nil]
  refine ⟨a, rfl, Nat.le_trans hz (by decide), ?_⟩
  cases hn : numOf (tl a) with
  | none =>
    rw [hn] at hdue
    dsimp only at hdue ⊢
    subst hdue
    intro d H1 ed s1
    refine ⟨true, X.is, fun _ x hx => ?_, fun h => Bool.noConfusion h⟩
    simp only [x_set0, x_setS]
    unfold t_ncaught
    rw [x_seq, x_asg, x_orV]
    refine isE_of rfl ed X.bp ⟨false, rfl, ?_⟩
    rw [if_neg (by decide), x_orV]
    refine isE_of rfl ed X.bq ⟨false, rfl, ?_⟩
    rw [if_neg (by decide)]
    refine isE_of rfl ed X.bl ?_
    simp only [x_name, x_set0, x_setS]
    rw [x_asg, x_lst, x_cons]
    refine isE_of rfl ed X.bt ?_
    rw [x_cons]
    refine isE_of rfl ed X.se ?_
    rw [x_cons]
    refine isE_ty rfl ed X.ve ?_
    simp only [x_cons, x_varS, x_var0]
    refine ⟨_, rfl, rfl, rfl, d, _, .str a, rfl, ed, rfl, ?_⟩
    dsimp only
    rw [x_nil]
    refine ⟨by show 5 ≤ sizeLine; decide, fun q hq => ?_⟩
    have s2 : Same H1 (upd H1 q (.lst [.bl true, .bl true, .bl true, .bl false, .str a])) := Same.new hq
    have e2 : (upd H1 q (.lst [.bl true, .bl true, .bl true, .bl false, .str a])) q = some (.lst [.bl true, .bl true, .bl true, .bl false, .str a]) := upd_same
    generalize (upd H1 q (.lst [.bl true, .bl true, .bl true, .bl false, .str a])) = H2 at s2 e2 ⊢
    simp only [x_name, x_set0, x_setS]
    rw [x_seq, x_if, x_B]
    simp only [x_if, x_test, x_B, x_op, x_un, x_varS, x_var0, x_c, x_I0, x_I, x_U, x_bl, x_ret, x_next, x_eqS, x_neS, x_m0, x_m1, x_isStr, x_SM, x_addT, x_slS, x_lenS, x_strI, x_mulS, x_startT, x_findT, x_preT, x_lstT, x_ascT, x_digT, x_jn, x_js0, x_js1, x_isS, x_fmt, x_fmtS, x_divW, x_truK, x_truS, x_raiseT, x_asg, x_name, x_set0, x_setS, x_drop, x_cb, x_cons, x_nil, x_int1, x_abs1, x_max2, x_gcd, x_gsub, x_sl, x_part, x_nopart, x_int, x_call, x_lst, x_tup, x_not, x_and, x_or, x_andV, x_orV, x_notV, x_ifE, x_eqI, x_neI, x_eqB, x_neB, x_tbm, x_never, x_make, x_meth, x_isII, x_isIC, x_bool1, decide_eq_true_eq, Bool.false_eq_true, if_false, if_true, List.append_nil, List.nil_append, List.cons_append, x_isNn, decide_true]
    refine ⟨by show 5 ≤ sizeLine; decide, fun r hr => ?_⟩
    have nqr : q ≠ r := fun e => by
      rw [← e, e2] at hr
      cases hr
    refine ⟨.list [.bool true, .bool true, .bool true, .bool false, .str a], .list [.bool true, .bool true, .bool true, .bool false, .str a], ?_, ?_, pl5, pl5, dp5, ?_⟩
    · exact .lst (SqL.at (by rw [upd_ne nqr]; exact e2)) (.cons (.bl _) (.cons (.bl _) (.cons (.bl _) (.cons (.bl _) (.cons (.str _) .nil)))))
    · exact .lst (SqL.at upd_same) (.cons (.bl _) (.cons (.bl _) (.cons (.bl _) (.cons (.bl _) (.cons (.str _) .nil)))))
    · have er : PyData.eqv (.list [.bool true, .bool true, .bool true, .bool false, .str a]) (.list [.bool true, .bool true, .bool true, .bool false, .str a]) = true := SeqAt.eqv_refl_plain _ pl5
      rw [er]
      exact k _ (((s0.trans s1).trans s2).trans (Same.new hr))
  | some tb =>
    obtain ⟨t, b⟩ := tb
    rw [hn] at hdue
    dsimp only at hdue ⊢
    obtain ⟨o, rfl, ho⟩ := hdue
    obtain ⟨w1, w2, w3, w4, w5⟩ := numOf_sound hn
    intro r H1 hr s1
    rw [x_name]
    simp only [x_set0, x_setS]
    have e1 := s1 _ _ e0
    have ho1 := (ho.same s0).same s1
    rw [x_seq, x_if, x_B]
    have hno : ¬ ((V.ref o) = V.non) := fun e => by cases e
    simp only [x_if, x_test, x_B, x_op, x_un, x_varS, x_var0, x_c, x_I0, x_I, x_U, x_bl, x_ret, x_next, x_eqS, x_neS, x_m0, x_m1, x_isStr, x_SM, x_addT, x_slS, x_lenS, x_strI, x_mulS, x_startT, x_findT, x_preT, x_lstT, x_ascT, x_digT, x_jn, x_js0, x_js1, x_isS, x_fmt, x_fmtS, x_divW, x_truK, x_truS, x_raiseT, x_asg, x_name, x_set0, x_setS, x_drop, x_cb, x_cons, x_nil, x_int1, x_abs1, x_max2, x_gcd, x_gsub, x_sl, x_part, x_nopart, x_int, x_call, x_lst, x_tup, x_not, x_and, x_or, x_andV, x_orV, x_notV, x_ifE, x_eqI, x_neI, x_eqB, x_neB, x_tbm, x_never, x_make, x_meth, x_isII, x_isIC, x_bool1, decide_eq_true_eq, Bool.false_eq_true, if_false, if_true, List.append_nil, List.nil_append, List.cons_append, x_isNn, x_lenA e1, List.length_nil]
    rw [if_neg hno]
    rw [if_pos (show ((0 : Nat) : Int) = 0 from rfl)]
    exact rightT_of hr ho1 w2 ((bd60 w4).mono (by decide)) ((bd60 w5).mono (by decide)) w1.symm fun H2 s2 => k H2 ((s0.trans s1).trans s2)
end SpX

set_option Elab.async false
set_option linter.all false
set_option maxRecDepth 100000
set_option maxHeartbeats 4000000
set_option exponentiation.threshold 20000
/-! Law k01: the law's own text. -/
namespace SpX
open PySem PySem.Spec NumText L2
open TL (tl)
theorem sz2 {v w : V} : [v, w].length ≤ sizeLine := by show 2 ≤ sizeLine; decide
theorem Num60.low {t b : Int} (h : Num60 t b) : Low t b := ⟨h.pos, h.cop⟩
theorem RatAt.keep {C P p : Addr} {H H' : Hp} {t b : Int} (h : RatAt C H p t b) (hp : PoolAt H P) (k : Keep P H H') : RatAt C H' p t b := by
  obtain ⟨dx, h⟩ := h
  obtain ⟨g, s, G, S, c, hp⟩ := hp
  refine ⟨dx, k _ _ (fun e => ?_) h⟩
  subst e
  rw [hp.p] at h
  cases h
theorem drawn_of {P : Addr} {H : Hp} {Q : VK} {E : XK} (hp : PoolAt H P) (k : ∀ (o : Addr) (H' : Hp) (t b : Int), TupAt H' o t b → Num60 t b → PoolAt H' P → Keep P H H' → Q (.ref o) H') : spDrawn [.ref P] H Q E := ⟨P, rfl, hp, k⟩
theorem lowest_of {x y : Int} {H : Hp} {Q : VK} {E : XK} (hy : 0 < y) (bx : Bd 8000 x) (by' : Bd 8000 y) (k : ∀ (o : Addr) (H' : Hp) (t b : Int), TupAt H' o t b → Norm t b x y → Same H H' → Q (.ref o) H') : spLowest [.int x, .int y] H Q E := ⟨x, y, rfl, hy, bx, by', k⟩
theorem reads_of {C : Addr} {a : Str} {due : V} {H : Hp} {Q : VK} {E : XK} (hl : a.length ≤ 100000) (hd : match numOf (tl a) with | none => due = .non | some (t, b) => ∃ o, due = .ref o ∧ TupAt H o t b) (k : ∀ H', Same H H' → Q (.bl true) H') : spReads C [.str a, due] H Q E := ⟨a, due, rfl, hl, hd, k⟩
theorem str_of {C p : Addr} {t b : Int} {H : Hp} {Q : VK} {E : XK} (h : RatAt C H p t b) (hb : 0 < b) (bt : Bd 17999 t) (bb : Bd 17999 b) (k : ∀ (y : Str) (H' : Hp), tl y = written t b → Same H H' → Q (.str y) H') : spStr C [.ref p] H Q E := ⟨p, t, b, rfl, h, hb, bt, bb, k⟩
theorem rat_of_drawn {C p : Addr} {H : Hp} {n d t b : Int} (h : RatAt C H p n d) (hn : Norm n d t b) (hl : Low t b) : RatAt C H p t b := by
  obtain ⟨e1, e2⟩ := Low.same hn.low hl (by rw [hn.eq])
  rwa [e1, e2] at h
theorem reads60 {C : Addr} {y : Str} {o : Addr} {t b : Int} {H : Hp} {Q : VK} {E : XK} (hy : tl y = written t b) (ho : TupAt H o t b) (n : Num60 t b) (k : ∀ H', Same H H' → Q (.bl true) H') : spReads C [.str y, .ref o] H Q E := by
  refine reads_of (len_str _ ?_) ?_ k
  · rw [hy]
    exact Nat.le_trans (written_len ((bd60 n.t).mono (by decide)) ((bd60 n.b).mono (by decide))) (by decide)
  · rw [hy, numOf_written n.pos n.cop n.t n.b]
    exact ⟨o, rfl, ho⟩
/-- a row of the first loop: a Ratio and its pair -/
def RowN (C : Addr) (H : Hp) (v : V) : Prop := ∃ (r p o : Addr) (t b : Int), v = .ref r ∧ H r = some (.tup [.ref p, .ref o]) ∧ RatAt C H p t b ∧ TupAt H o t b ∧ 0 < b ∧ Bd 900 t ∧ Bd 900 b
theorem RowN.same {C : Addr} {H H' : Hp} {v : V} (h : RowN C H v) (s : Same H H') : RowN C H' v := by
  obtain ⟨r, p, o, t, b, e, h1, h2, h3, h4⟩ := h
  exact ⟨r, p, o, t, b, e, s _ _ h1, h2.same s, h3.same s, h4⟩
def t_nlaw (P : Program) (K : PySem.W.Frag) (mg : Str → Option Value) (C Z D BN : Addr) (E : XK) : TS :=
    (tSeq (tAsg (tCall (spPoolB K) [] E0 (tCons (tVar 0) tNil)) (gName 1))
    (tSeq (tAsg (tCall spDrawn [] E0 (tCons (tVar 1) tNil)) (gName 2))
    (tSeq (tAsg (tCall spDrawn [] E0 (tCons (tVar 1) tNil)) (gName 3))
    (tSeq (tAsg (tMake C (spInit C Z) [] E0 (tCons (tOp rIx1 (tVar 2) (tC (.int 0))) (tCons (tOp rIx1 (tVar 2) (tC (.int 1))) tNil))) (gName 4))
    (tSeq (tAsg (tMake C (spInit C Z) [] E0 (tCons (tOp rIx1 (tVar 3) (tC (.int 0))) (tCons (tOp rIx1 (tVar 3) (tC (.int 1))) tNil))) (gName 5))
    (tSeq (tAsg (tCall spLowest [] E0 (tCons (tOp (rI IntMulOk fun i j => .int (i * j)) (tOp rIx1 (tVar 2) (tC (.int 0))) (tOp rIx1 (tVar 3) (tC (.int 0)))) (tCons (tOp (rI IntMulOk fun i j => .int (i * j)) (tOp rIx1 (tVar 2) (tC (.int 1))) (tOp rIx1 (tVar 3) (tC (.int 1)))) tNil))) (gName 6))
    (tSeq (tFor (iList K (tLst (tCons (tTup (tCons (tVar 4) (tCons (tVar 2) tNil))) (tCons (tTup (tCons (tVar 5) (tCons (tVar 3) tNil))) (tCons (tTup (tCons (tOp (rOwn2 C (spBin C mulN) E0) (tVar 4) (tVar 5)) (tCons (tVar 6) tNil))) tNil))))) (gName 7) ((tIfS (tTest (tOp rNe (tCB (rOwnStr C (spStr C) E0) (tCons (tOp rIx1 (tVar 7) (tC (.int 0))) tNil)) (tCall spWritten [] E0 (tCons (tOp rIx1 (tVar 7) (tC (.int 1))) tNil)))) (tRet (tC (.bl false))) tNext)))
    (tSeq (tIfS (tOr (tNot (tB (tCall (spReads C) [] E0 (tCons (tCall spWritten [] E0 (tCons (tVar 2) tNil)) (tCons (tVar 2) tNil))))) (tNot (tB (tCall (spReads C) [] E0 (tCons (tCall spWritten [] E0 (tCons (tVar 3) tNil)) (tCons (tVar 3) tNil)))))) (tRet (tC (.bl false))) tNext)
    (tSeq (tFor (iList K (tOp rCat (tLst (tCons (tCall spWritten [] E0 (tCons (tVar 6) tNil)) (tCons (tCall spText [] E0 (tCons (tVar 1) (tCons (tVar 2) tNil))) tNil))) (tCall spFixed [] E0 tNil))) (gName 8) ((tIfS (tNot (tB (tCall (spReads C) [] E0 (tCons (tVar 8) (tCons (tCall spJudged [] E0 (tCons (tVar 8) tNil)) tNil))))) (tRet (tC (.bl false))) tNext)))
    (tRet (tC (.bl true))))))))))))
theorem pure_nlaw {P0 : Program} {K : PySem.W.Frag} {mg : Str → Option Value} {C Z D BN : Addr} (vs : List V) (H : Hp) (Q : VK) (E : XK) (h : spLaw K vs H Q E) :
    t_nlaw P0 K mg C Z D BN E { nx := fun _ H' => Q .non H', rt := Q } (start ["script", "pool", "one", "two", "first", "second", "both", "row", "text"] vs) H := by
  obtain ⟨a, sc, rfl, hS, hl, k⟩ := h
  show t_nlaw P0 K mg C Z D BN E _ [some (.ref a), none, none, none, none, none, none, none, none] H
  unfold t_nlaw
  rw [x_seq]
  simp only [x_if, x_test, x_B, x_op, x_un, x_varS, x_var0, x_c, x_I0, x_I, x_U, x_bl, x_ret, x_next, x_eqS, x_neS, x_m0, x_m1, x_isStr, x_SM, x_addT, x_slS, x_lenS, x_strI, x_mulS, x_startT, x_findT, x_preT, x_lstT, x_ascT, x_digT, x_jn, x_js0, x_js1, x_isS, x_fmt, x_fmtS, x_divW, x_truK, x_truS, x_raiseT, x_asg, x_name, x_set0, x_setS, x_drop, x_cb, x_cons, x_nil, x_int1, x_abs1, x_max2, x_gcd, x_gsub, x_sl, x_part, x_nopart, x_int, x_call, x_lst, x_tup, x_not, x_and, x_or, x_andV, x_orV, x_notV, x_ifE, x_eqI, x_neI, x_eqB, x_neB, x_tbm, x_never, x_make, x_meth, x_isII, x_isIC, x_bool1, decide_eq_true_eq, Bool.false_eq_true, if_false, if_true, List.append_nil, List.nil_append, List.cons_append]
  refine ⟨a, sc, rfl, hS, hl, fun P H1 hp1 _ => ?_⟩
  have hp1 := hp1.at
  try dsimp only
  rw [x_seq]
  simp only [x_if, x_test, x_B, x_op, x_un, x_varS, x_var0, x_c, x_I0, x_I, x_U, x_bl, x_ret, x_next, x_eqS, x_neS, x_m0, x_m1, x_isStr, x_SM, x_addT, x_slS, x_lenS, x_strI, x_mulS, x_startT, x_findT, x_preT, x_lstT, x_ascT, x_digT, x_jn, x_js0, x_js1, x_isS, x_fmt, x_fmtS, x_divW, x_truK, x_truS, x_raiseT, x_asg, x_name, x_set0, x_setS, x_drop, x_cb, x_cons, x_nil, x_int1, x_abs1, x_max2, x_gcd, x_gsub, x_sl, x_part, x_nopart, x_int, x_call, x_lst, x_tup, x_not, x_and, x_or, x_andV, x_orV, x_notV, x_ifE, x_eqI, x_neI, x_eqB, x_neB, x_tbm, x_never, x_make, x_meth, x_isII, x_isIC, x_bool1, decide_eq_true_eq, Bool.false_eq_true, if_false, if_true, List.append_nil, List.nil_append, List.cons_append]
  refine drawn_of hp1 fun o1 H2 t b ho1 n1 hp2 k2 => ?_
  try dsimp only
  rw [x_seq]
  simp only [x_if, x_test, x_B, x_op, x_un, x_varS, x_var0, x_c, x_I0, x_I, x_U, x_bl, x_ret, x_next, x_eqS, x_neS, x_m0, x_m1, x_isStr, x_SM, x_addT, x_slS, x_lenS, x_strI, x_mulS, x_startT, x_findT, x_preT, x_lstT, x_ascT, x_digT, x_jn, x_js0, x_js1, x_isS, x_fmt, x_fmtS, x_divW, x_truK, x_truS, x_raiseT, x_asg, x_name, x_set0, x_setS, x_drop, x_cb, x_cons, x_nil, x_int1, x_abs1, x_max2, x_gcd, x_gsub, x_sl, x_part, x_nopart, x_int, x_call, x_lst, x_tup, x_not, x_and, x_or, x_andV, x_orV, x_notV, x_ifE, x_eqI, x_neI, x_eqB, x_neB, x_tbm, x_never, x_make, x_meth, x_isII, x_isIC, x_bool1, decide_eq_true_eq, Bool.false_eq_true, if_false, if_true, List.append_nil, List.nil_append, List.cons_append]
  refine drawn_of hp2 fun o2 H3 u c ho2 n2 hp3 k3 => ?_
  have ho1 := ho1.keep hp2 k3
  try dsimp only
  rw [x_seq]
  simp only [x_if, x_test, x_B, x_op, x_un, x_varS, x_var0, x_c, x_I0, x_I, x_U, x_bl, x_ret, x_next, x_eqS, x_neS, x_m0, x_m1, x_isStr, x_SM, x_addT, x_slS, x_lenS, x_strI, x_mulS, x_startT, x_findT, x_preT, x_lstT, x_ascT, x_digT, x_jn, x_js0, x_js1, x_isS, x_fmt, x_fmtS, x_divW, x_truK, x_truS, x_raiseT, x_asg, x_name, x_set0, x_setS, x_drop, x_cb, x_cons, x_nil, x_int1, x_abs1, x_max2, x_gcd, x_gsub, x_sl, x_part, x_nopart, x_int, x_call, x_lst, x_tup, x_not, x_and, x_or, x_andV, x_orV, x_notV, x_ifE, x_eqI, x_neI, x_eqB, x_neB, x_tbm, x_never, x_make, x_meth, x_isII, x_isIC, x_bool1, decide_eq_true_eq, Bool.false_eq_true, if_false, if_true, List.append_nil, List.nil_append, List.cons_append, x_ixT ho1 at0, x_ixT ho1 at1]
  intro p1 dx1 np nd ne
  refine make_at ((bd60 n1.t).mono (by decide)) ((bd60 n1.b).mono (by decide)) (by have := n1.pos; omega) np nd ne fun H4 n d hr hn s4 => ?_
  have hr1 := rat_of_drawn hr hn n1.low
  have ho1 := ho1.same s4
  have ho2 := ho2.same s4
  have hp4 := hp3.same s4
  try dsimp only
  rw [x_seq]
  simp only [x_if, x_test, x_B, x_op, x_un, x_varS, x_var0, x_c, x_I0, x_I, x_U, x_bl, x_ret, x_next, x_eqS, x_neS, x_m0, x_m1, x_isStr, x_SM, x_addT, x_slS, x_lenS, x_strI, x_mulS, x_startT, x_findT, x_preT, x_lstT, x_ascT, x_digT, x_jn, x_js0, x_js1, x_isS, x_fmt, x_fmtS, x_divW, x_truK, x_truS, x_raiseT, x_asg, x_name, x_set0, x_setS, x_drop, x_cb, x_cons, x_nil, x_int1, x_abs1, x_max2, x_gcd, x_gsub, x_sl, x_part, x_nopart, x_int, x_call, x_lst, x_tup, x_not, x_and, x_or, x_andV, x_orV, x_notV, x_ifE, x_eqI, x_neI, x_eqB, x_neB, x_tbm, x_never, x_make, x_meth, x_isII, x_isIC, x_bool1, decide_eq_true_eq, Bool.false_eq_true, if_false, if_true, List.append_nil, List.nil_append, List.cons_append, x_ixT ho2 at0, x_ixT ho2 at1]
  intro p2 dx2 np nd ne
  refine make_at ((bd60 n2.t).mono (by decide)) ((bd60 n2.b).mono (by decide)) (by have := n2.pos; omega) np nd ne fun H5 n' d' hr' hn' s5 => ?_
  have hr2 := rat_of_drawn hr' hn' n2.low
  have hr1 := hr1.same s5
  have ho1 := ho1.same s5
  have ho2 := ho2.same s5
  have hp5 := hp4.same s5
  have b1 := bd60 n1.t
  have b2 := bd60 n1.b
  have b3 := bd60 n2.t
  have b4 := bd60 n2.b
  have m1 : Bd 400 (t * u) := b1.mul b3
  have m2 : Bd 400 (b * c) := b2.mul b4
  have mp : 0 < b * c := Int.mul_pos n1.pos n2.pos
  try dsimp only
  rw [x_seq]
  simp only [x_if, x_test, x_B, x_op, x_un, x_varS, x_var0, x_c, x_I0, x_I, x_U, x_bl, x_ret, x_next, x_eqS, x_neS, x_m0, x_m1, x_isStr, x_SM, x_addT, x_slS, x_lenS, x_strI, x_mulS, x_startT, x_findT, x_preT, x_lstT, x_ascT, x_digT, x_jn, x_js0, x_js1, x_isS, x_fmt, x_fmtS, x_divW, x_truK, x_truS, x_raiseT, x_asg, x_name, x_set0, x_setS, x_drop, x_cb, x_cons, x_nil, x_int1, x_abs1, x_max2, x_gcd, x_gsub, x_sl, x_part, x_nopart, x_int, x_call, x_lst, x_tup, x_not, x_and, x_or, x_andV, x_orV, x_notV, x_ifE, x_eqI, x_neI, x_eqB, x_neB, x_tbm, x_never, x_make, x_meth, x_isII, x_isIC, x_bool1, decide_eq_true_eq, Bool.false_eq_true, if_false, if_true, List.append_nil, List.nil_append, List.cons_append, x_ixT ho1 at0, x_ixT ho1 at1, x_ixT ho2 at0, x_ixT ho2 at1]
  refine ⟨b1.ok b3 (by decide) (by decide) (by decide), b2.ok b4 (by decide) (by decide) (by decide), lowest_of mp (m1.mono (by decide)) (m2.mono (by decide)) fun o3 H6 g f ho3 hn3 s6 => ?_⟩
  have hr1 := hr1.same s6
  have hr2 := hr2.same s6
  have ho1 := ho1.same s6
  have ho2 := ho2.same s6
  have hp6 := hp5.same s6
  have l3 := hn3.le (by omega)
  have bg : Bd 900 g := (Bd.of m1 l3.1).mono (by decide)
  have bf : Bd 900 f := (Bd.of m2 l3.2).mono (by decide)
  try dsimp only
  rw [x_seq, x_forL]
  simp only [x_if, x_test, x_B, x_op, x_un, x_varS, x_var0, x_c, x_I0, x_I, x_U, x_bl, x_ret, x_next, x_eqS, x_neS, x_m0, x_m1, x_isStr, x_SM, x_addT, x_slS, x_lenS, x_strI, x_mulS, x_startT, x_findT, x_preT, x_lstT, x_ascT, x_digT, x_jn, x_js0, x_js1, x_isS, x_fmt, x_fmtS, x_divW, x_truK, x_truS, x_raiseT, x_asg, x_name, x_set0, x_setS, x_drop, x_cb, x_cons, x_nil, x_int1, x_abs1, x_max2, x_gcd, x_gsub, x_sl, x_part, x_nopart, x_int, x_call, x_lst, x_tup, x_not, x_and, x_or, x_andV, x_orV, x_notV, x_ifE, x_eqI, x_neI, x_eqB, x_neB, x_tbm, x_never, x_make, x_meth, x_isII, x_isIC, x_bool1, decide_eq_true_eq, Bool.false_eq_true, if_false, if_true, List.append_nil, List.nil_append, List.cons_append]
  refine ⟨sz2, fun r1 hn1 => ?_⟩
  have s7 : Same H6 (upd H6 r1 (.tup [.ref p1, .ref o1])) := Same.new hn1
  have er1 : (upd H6 r1 (.tup [.ref p1, .ref o1])) r1 = some (.tup [.ref p1, .ref o1]) := upd_same
  generalize (upd H6 r1 (.tup [.ref p1, .ref o1])) = H7 at s7 er1 ⊢
  have hr1 := hr1.same s7
  have hr2 := hr2.same s7
  have ho1 := ho1.same s7
  have ho2 := ho2.same s7
  have ho3 := ho3.same s7
  have hp6 := hp6.same s7
  refine ⟨sz2, fun r2 hn2 => ?_⟩
  have s8 : Same H7 (upd H7 r2 (.tup [.ref p2, .ref o2])) := Same.new hn2
  have er2 : (upd H7 r2 (.tup [.ref p2, .ref o2])) r2 = some (.tup [.ref p2, .ref o2]) := upd_same
  generalize (upd H7 r2 (.tup [.ref p2, .ref o2])) = H8 at s8 er2 ⊢
  have hr1 := hr1.same s8
  have hr2 := hr2.same s8
  have ho1 := ho1.same s8
  have ho2 := ho2.same s8
  have ho3 := ho3.same s8
  have hp6 := hp6.same s8
  have er1 := s8 _ _ er1
  obtain ⟨dp1, hq1⟩ := id hr1
  obtain ⟨dp2, hq2⟩ := id hr2
  rw [x_own2 hq1 hq2]
  refine ⟨p1, .ref p2, t, b, u, c, rfl, hr1, .rat hr2, n1.low, n2.low, b1.mono (by decide), b2.mono (by decide), b3.mono (by decide), b4.mono (by decide), fun p3 H9 n'' d'' hr3 hn9 s9 => ?_⟩
  have hr3 := rat_of_drawn hr3 (hn9.cross (by omega) hn3.eq.symm) hn3.low
  have hr1 := hr1.same s9
  have hr2 := hr2.same s9
  have ho1 := ho1.same s9
  have ho2 := ho2.same s9
  have ho3 := ho3.same s9
  have hp6 := hp6.same s9
  have er1 := s9 _ _ er1
  have er2 := s9 _ _ er2
  refine ⟨sz2, fun r3 hn3' => ?_⟩
  have s10 : Same H9 (upd H9 r3 (.tup [.ref p3, .ref o3])) := Same.new hn3'
  have er3 : (upd H9 r3 (.tup [.ref p3, .ref o3])) r3 = some (.tup [.ref p3, .ref o3]) := upd_same
  generalize (upd H9 r3 (.tup [.ref p3, .ref o3])) = H10 at s10 er3 ⊢
  have hr1 := hr1.same s10
  have hr2 := hr2.same s10
  have ho1 := ho1.same s10
  have ho2 := ho2.same s10
  have ho3 := ho3.same s10
  have hp6 := hp6.same s10
  have hr3 := hr3.same s10
  have er1 := s10 _ _ er1
  have er2 := s10 _ _ er2
  refine ⟨by show 3 ≤ sizeLine; decide, fun l hnl => ?_⟩
  have s11 : Same H10 (upd H10 l (.lst [.ref r1, .ref r2, .ref r3])) := Same.new hnl
  have el : (upd H10 l (.lst [.ref r1, .ref r2, .ref r3])) l = some (.lst [.ref r1, .ref r2, .ref r3]) := upd_same
  generalize (upd H10 l (.lst [.ref r1, .ref r2, .ref r3])) = H11 at s11 el ⊢
  have hr1 := hr1.same s11
  have hr2 := hr2.same s11
  have ho1 := ho1.same s11
  have ho2 := ho2.same s11
  have ho3 := ho3.same s11
  have hp6 := hp6.same s11
  have hr3 := hr3.same s11
  have er1 := s11 _ _ er1
  have er2 := s11 _ _ er2
  have er3 := s11 _ _ er3
  have hrow : ∀ v ∈ [V.ref r1, .ref r2, .ref r3], RowN C H11 v := by
    intro v hv
    simp only [List.mem_cons, List.not_mem_nil, or_false] at hv
    rcases hv with h | h | h <;> subst h
    · exact ⟨r1, p1, o1, t, b, rfl, er1, hr1, ho1, n1.pos, b1.mono (by decide), b2.mono (by decide)⟩
    · exact ⟨r2, p2, o2, u, c, rfl, er2, hr2, ho2, n2.pos, b3.mono (by decide), b4.mono (by decide)⟩
    · exact ⟨r3, p3, o3, g, f, rfl, er3, hr3, ho3, hn3.pos, bg, bf⟩
  clear er1 er2 er3 hr1 hr2 hr3 hq1 hq2
  refine for_lstV (K := K) (a := l) (xs := [.ref r1, .ref r2, .ref r3]) (fun _ => rfl) (fun _ σ H => (∃ w, σ = [some (.ref a), some (.ref P), some (.ref o1), some (.ref o2), some (.ref p1), some (.ref p2), some (.ref o3), w, none]) ∧ Same H11 H) ⟨⟨_, rfl⟩, Same.refl _⟩ (fun i σ H _ h => h.2 _ _ el) ?_ ?_
  · rintro i x σ H hx ⟨⟨w, rfl⟩, s⟩
    obtain ⟨r, p, o, t, b, rfl, er, hr, ho, h0, bt, bb⟩ := (hrow x (List.mem_of_getElem? hx)).same s
    obtain ⟨dx, hr'⟩ := id hr
    simp only [x_if, x_test, x_B, x_op, x_un, x_varS, x_var0, x_c, x_I0, x_I, x_U, x_bl, x_ret, x_next, x_eqS, x_neS, x_m0, x_m1, x_isStr, x_SM, x_addT, x_slS, x_lenS, x_strI, x_mulS, x_startT, x_findT, x_preT, x_lstT, x_ascT, x_digT, x_jn, x_js0, x_js1, x_isS, x_fmt, x_fmtS, x_divW, x_truK, x_truS, x_raiseT, x_asg, x_name, x_set0, x_setS, x_drop, x_cb, x_cons, x_nil, x_int1, x_abs1, x_max2, x_gcd, x_gsub, x_sl, x_part, x_nopart, x_int, x_call, x_lst, x_tup, x_not, x_and, x_or, x_andV, x_orV, x_notV, x_ifE, x_eqI, x_neI, x_eqB, x_neB, x_tbm, x_never, x_make, x_meth, x_isII, x_isIC, x_bool1, decide_eq_true_eq, Bool.false_eq_true, if_false, if_true, List.append_nil, List.nil_append, List.cons_append, x_ixT er at0, x_ownStr hr']
    refine str_of hr h0 (bt.mono (by decide)) (bb.mono (by decide)) fun y H2 hy s2 => ⟨y, rfl, ?_⟩
    simp only [x_if, x_test, x_B, x_op, x_un, x_varS, x_var0, x_c, x_I0, x_I, x_U, x_bl, x_ret, x_next, x_eqS, x_neS, x_m0, x_m1, x_isStr, x_SM, x_addT, x_slS, x_lenS, x_strI, x_mulS, x_startT, x_findT, x_preT, x_lstT, x_ascT, x_digT, x_jn, x_js0, x_js1, x_isS, x_fmt, x_fmtS, x_divW, x_truK, x_truS, x_raiseT, x_asg, x_name, x_set0, x_setS, x_drop, x_cb, x_cons, x_nil, x_int1, x_abs1, x_max2, x_gcd, x_gsub, x_sl, x_part, x_nopart, x_int, x_call, x_lst, x_tup, x_not, x_and, x_or, x_andV, x_orV, x_notV, x_ifE, x_eqI, x_neI, x_eqB, x_neB, x_tbm, x_never, x_make, x_meth, x_isII, x_isIC, x_bool1, decide_eq_true_eq, Bool.false_eq_true, if_false, if_true, List.append_nil, List.nil_append, List.cons_append, x_ixT (s2 _ _ er) at1]
    refine written_of (ho.same s2) h0 bt bb fun z hz => ?_
    have e : decide (y = z) = true := by rw [dec_str, hy, hz, decide_eq_true rfl]
    simp only [x_if, x_test, x_B, x_op, x_un, x_varS, x_var0, x_c, x_I0, x_I, x_U, x_bl, x_ret, x_next, x_eqS, x_neS, x_m0, x_m1, x_isStr, x_SM, x_addT, x_slS, x_lenS, x_strI, x_mulS, x_startT, x_findT, x_preT, x_lstT, x_ascT, x_digT, x_jn, x_js0, x_js1, x_isS, x_fmt, x_fmtS, x_divW, x_truK, x_truS, x_raiseT, x_asg, x_name, x_set0, x_setS, x_drop, x_cb, x_cons, x_nil, x_int1, x_abs1, x_max2, x_gcd, x_gsub, x_sl, x_part, x_nopart, x_int, x_call, x_lst, x_tup, x_not, x_and, x_or, x_andV, x_orV, x_notV, x_ifE, x_eqI, x_neI, x_eqB, x_neB, x_tbm, x_never, x_make, x_meth, x_isII, x_isIC, x_bool1, decide_eq_true_eq, Bool.false_eq_true, if_false, if_true, List.append_nil, List.nil_append, List.cons_append, e, Bool.not_true]
    exact ⟨⟨_, rfl⟩, s.trans s2⟩
  · rintro σ H ⟨⟨w, rfl⟩, s⟩
    have ho1 := ho1.same s
    have ho2 := ho2.same s
    have ho3 := ho3.same s
    have hp6 := hp6.same s
    dsimp only
    rw [x_seq]
    simp only [x_if, x_test, x_B, x_op, x_un, x_varS, x_var0, x_c, x_I0, x_I, x_U, x_bl, x_ret, x_next, x_eqS, x_neS, x_m0, x_m1, x_isStr, x_SM, x_addT, x_slS, x_lenS, x_strI, x_mulS, x_startT, x_findT, x_preT, x_lstT, x_ascT, x_digT, x_jn, x_js0, x_js1, x_isS, x_fmt, x_fmtS, x_divW, x_truK, x_truS, x_raiseT, x_asg, x_name, x_set0, x_setS, x_drop, x_cb, x_cons, x_nil, x_int1, x_abs1, x_max2, x_gcd, x_gsub, x_sl, x_part, x_nopart, x_int, x_call, x_lst, x_tup, x_not, x_and, x_or, x_andV, x_orV, x_notV, x_ifE, x_eqI, x_neI, x_eqB, x_neB, x_tbm, x_never, x_make, x_meth, x_isII, x_isIC, x_bool1, decide_eq_true_eq, Bool.false_eq_true, if_false, if_true, List.append_nil, List.nil_append, List.cons_append]
    refine written_of ho1 n1.pos (b1.mono (by decide)) (b2.mono (by decide)) fun y hy => ?_
    refine reads60 hy ho1 n1 fun H12 s12 => ?_
    have ho1 := ho1.same s12
    have ho2 := ho2.same s12
    have ho3 := ho3.same s12
    have hp6 := hp6.same s12
    simp only [x_if, x_test, x_B, x_op, x_un, x_varS, x_var0, x_c, x_I0, x_I, x_U, x_bl, x_ret, x_next, x_eqS, x_neS, x_m0, x_m1, x_isStr, x_SM, x_addT, x_slS, x_lenS, x_strI, x_mulS, x_startT, x_findT, x_preT, x_lstT, x_ascT, x_digT, x_jn, x_js0, x_js1, x_isS, x_fmt, x_fmtS, x_divW, x_truK, x_truS, x_raiseT, x_asg, x_name, x_set0, x_setS, x_drop, x_cb, x_cons, x_nil, x_int1, x_abs1, x_max2, x_gcd, x_gsub, x_sl, x_part, x_nopart, x_int, x_call, x_lst, x_tup, x_not, x_and, x_or, x_andV, x_orV, x_notV, x_ifE, x_eqI, x_neI, x_eqB, x_neB, x_tbm, x_never, x_make, x_meth, x_isII, x_isIC, x_bool1, decide_eq_true_eq, Bool.false_eq_true, if_false, if_true, List.append_nil, List.nil_append, List.cons_append, Bool.not_true]
    refine written_of ho2 n2.pos (b3.mono (by decide)) (b4.mono (by decide)) fun y hy => ?_
    refine reads60 hy ho2 n2 fun H13 s13 => ?_
    have ho1 := ho1.same s13
    have ho2 := ho2.same s13
    have ho3 := ho3.same s13
    have hp6 := hp6.same s13
    simp only [x_if, x_test, x_B, x_op, x_un, x_varS, x_var0, x_c, x_I0, x_I, x_U, x_bl, x_ret, x_next, x_eqS, x_neS, x_m0, x_m1, x_isStr, x_SM, x_addT, x_slS, x_lenS, x_strI, x_mulS, x_startT, x_findT, x_preT, x_lstT, x_ascT, x_digT, x_jn, x_js0, x_js1, x_isS, x_fmt, x_fmtS, x_divW, x_truK, x_truS, x_raiseT, x_asg, x_name, x_set0, x_setS, x_drop, x_cb, x_cons, x_nil, x_int1, x_abs1, x_max2, x_gcd, x_gsub, x_sl, x_part, x_nopart, x_int, x_call, x_lst, x_tup, x_not, x_and, x_or, x_andV, x_orV, x_notV, x_ifE, x_eqI, x_neI, x_eqB, x_neB, x_tbm, x_never, x_make, x_meth, x_isII, x_isIC, x_bool1, decide_eq_true_eq, Bool.false_eq_true, if_false, if_true, List.append_nil, List.nil_append, List.cons_append, Bool.not_true]
    rw [x_seq, x_forL]
    simp only [x_if, x_test, x_B, x_op, x_un, x_varS, x_var0, x_c, x_I0, x_I, x_U, x_bl, x_ret, x_next, x_eqS, x_neS, x_m0, x_m1, x_isStr, x_SM, x_addT, x_slS, x_lenS, x_strI, x_mulS, x_startT, x_findT, x_preT, x_lstT, x_ascT, x_digT, x_jn, x_js0, x_js1, x_isS, x_fmt, x_fmtS, x_divW, x_truK, x_truS, x_raiseT, x_asg, x_name, x_set0, x_setS, x_drop, x_cb, x_cons, x_nil, x_int1, x_abs1, x_max2, x_gcd, x_gsub, x_sl, x_part, x_nopart, x_int, x_call, x_lst, x_tup, x_not, x_and, x_or, x_andV, x_orV, x_notV, x_ifE, x_eqI, x_neI, x_eqB, x_neB, x_tbm, x_never, x_make, x_meth, x_isII, x_isIC, x_bool1, decide_eq_true_eq, Bool.false_eq_true, if_false, if_true, List.append_nil, List.nil_append, List.cons_append]
    refine written_of ho3 hn3.pos bg bf fun y3 hy3 => ?_
    have l3 := written_len bg bf
    refine ⟨P, o1, t, b, rfl, hp6, ho1, n1, fun yt H14 lt hp14 k14 => ?_⟩
    try dsimp only
    refine ⟨sz2, fun q hq => ?_⟩
    have s15 : Same H14 (upd H14 q (.lst [.str y3, .str yt])) := Same.new hq
    have eq : (upd H14 q (.lst [.str y3, .str yt])) q = some (.lst [.str y3, .str yt]) := upd_same
    generalize (upd H14 q (.lst [.str y3, .str yt])) = H15 at s15 eq ⊢
    refine ⟨rfl, fun pf ys H16 ef lf lys s16 => ?_⟩
    dsimp only
    rw [x_cat (s16 _ _ eq) ef (by rw [List.length_map]; exact Nat.le_trans (show 2 + ys.length ≤ 200 by omega) (by decide))]
    intro l2 hl2
    have el2 : (upd H16 l2 (.lst ([V.str y3, .str yt] ++ ys.map V.str))) l2 = some (.lst ([V.str y3, .str yt] ++ ys.map V.str)) := upd_same
    generalize (upd H16 l2 (.lst ([V.str y3, .str yt] ++ ys.map V.str))) = H17 at el2 ⊢
    have hx : ∀ v ∈ [V.str y3, .str yt] ++ ys.map V.str, ∃ z : Str, v = .str z ∧ z.length ≤ 6000 := by
      intro v hv
      rcases List.mem_append.mp hv with h | h
      · simp only [List.mem_cons, List.not_mem_nil, or_false] at h
        rcases h with h | h
        · exact ⟨_, h, by rw [tl_len, hy3]; omega⟩
        · exact ⟨_, h, lt⟩
      · obtain ⟨z, hz, rfl⟩ := List.mem_map.mp h
        exact ⟨_, rfl, by have := lys z hz; omega⟩
    clear hy3 l3 k14 s16 ef lf lys s15 eq hy
    refine for_lstV (K := K) (a := l2) (xs := [V.str y3, .str yt] ++ ys.map V.str) (fun _ => rfl) (fun _ σ H => (∃ w', σ = [some (.ref a), some (.ref P), some (.ref o1), some (.ref o2), some (.ref p1), some (.ref p2), some (.ref o3), w, w']) ∧ Same H17 H) ⟨⟨_, rfl⟩, Same.refl _⟩ (fun i σ H _ h => h.2 _ _ el2) ?_ ?_
    · rintro i x σ H hxi ⟨⟨w', rfl⟩, s⟩
      obtain ⟨z, rfl, lz⟩ := hx x (List.mem_of_getElem? hxi)
      simp only [x_if, x_test, x_B, x_op, x_un, x_varS, x_var0, x_c, x_I0, x_I, x_U, x_bl, x_ret, x_next, x_eqS, x_neS, x_m0, x_m1, x_isStr, x_SM, x_addT, x_slS, x_lenS, x_strI, x_mulS, x_startT, x_findT, x_preT, x_lstT, x_ascT, x_digT, x_jn, x_js0, x_js1, x_isS, x_fmt, x_fmtS, x_divW, x_truK, x_truS, x_raiseT, x_asg, x_name, x_set0, x_setS, x_drop, x_cb, x_cons, x_nil, x_int1, x_abs1, x_max2, x_gcd, x_gsub, x_sl, x_part, x_nopart, x_int, x_call, x_lst, x_tup, x_not, x_and, x_or, x_andV, x_orV, x_notV, x_ifE, x_eqI, x_neI, x_eqB, x_neB, x_tbm, x_never, x_make, x_meth, x_isII, x_isIC, x_bool1, decide_eq_true_eq, Bool.false_eq_true, if_false, if_true, List.append_nil, List.nil_append, List.cons_append]
      refine ⟨z, rfl, Nat.le_trans (show z.length + 2 ≤ 6002 by omega) (by decide), fun H' s1 => ?_⟩
      cases hn : numOf (tl z) with
      | none =>
        dsimp only
        refine reads_of (Nat.le_trans lz (by decide)) (by rw [hn]) fun H2 s2 => ?_
        simp only [x_if, x_test, x_B, x_op, x_un, x_varS, x_var0, x_c, x_I0, x_I, x_U, x_bl, x_ret, x_next, x_eqS, x_neS, x_m0, x_m1, x_isStr, x_SM, x_addT, x_slS, x_lenS, x_strI, x_mulS, x_startT, x_findT, x_preT, x_lstT, x_ascT, x_digT, x_jn, x_js0, x_js1, x_isS, x_fmt, x_fmtS, x_divW, x_truK, x_truS, x_raiseT, x_asg, x_name, x_set0, x_setS, x_drop, x_cb, x_cons, x_nil, x_int1, x_abs1, x_max2, x_gcd, x_gsub, x_sl, x_part, x_nopart, x_int, x_call, x_lst, x_tup, x_not, x_and, x_or, x_andV, x_orV, x_notV, x_ifE, x_eqI, x_neI, x_eqB, x_neB, x_tbm, x_never, x_make, x_meth, x_isII, x_isIC, x_bool1, decide_eq_true_eq, Bool.false_eq_true, if_false, if_true, List.append_nil, List.nil_append, List.cons_append, Bool.not_true]
        exact ⟨⟨_, rfl⟩, (s.trans s1).trans s2⟩
      | some tb =>
        obtain ⟨x, y⟩ := tb
        intro o' H2 ho' s2
        try dsimp only
        refine reads_of (Nat.le_trans lz (by decide)) (by rw [hn]; exact ⟨o', rfl, ho'⟩) fun H3 s3 => ?_
        simp only [x_if, x_test, x_B, x_op, x_un, x_varS, x_var0, x_c, x_I0, x_I, x_U, x_bl, x_ret, x_next, x_eqS, x_neS, x_m0, x_m1, x_isStr, x_SM, x_addT, x_slS, x_lenS, x_strI, x_mulS, x_startT, x_findT, x_preT, x_lstT, x_ascT, x_digT, x_jn, x_js0, x_js1, x_isS, x_fmt, x_fmtS, x_divW, x_truK, x_truS, x_raiseT, x_asg, x_name, x_set0, x_setS, x_drop, x_cb, x_cons, x_nil, x_int1, x_abs1, x_max2, x_gcd, x_gsub, x_sl, x_part, x_nopart, x_int, x_call, x_lst, x_tup, x_not, x_and, x_or, x_andV, x_orV, x_notV, x_ifE, x_eqI, x_neI, x_eqB, x_neB, x_tbm, x_never, x_make, x_meth, x_isII, x_isIC, x_bool1, decide_eq_true_eq, Bool.false_eq_true, if_false, if_true, List.append_nil, List.nil_append, List.cons_append, Bool.not_true]
        exact ⟨⟨_, rfl⟩, ((s.trans s1).trans s2).trans s3⟩
    · rintro σ H ⟨⟨w', rfl⟩, s⟩
      try dsimp only
      try simp only [x_if, x_test, x_B, x_op, x_un, x_varS, x_var0, x_c, x_I0, x_I, x_U, x_bl, x_ret, x_next, x_eqS, x_neS, x_m0, x_m1, x_isStr, x_SM, x_addT, x_slS, x_lenS, x_strI, x_mulS, x_startT, x_findT, x_preT, x_lstT, x_ascT, x_digT, x_jn, x_js0, x_js1, x_isS, x_fmt, x_fmtS, x_divW, x_truK, x_truS, x_raiseT, x_asg, x_name, x_set0, x_setS, x_drop, x_cb, x_cons, x_nil, x_int1, x_abs1, x_max2, x_gcd, x_gsub, x_sl, x_part, x_nopart, x_int, x_call, x_lst, x_tup, x_not, x_and, x_or, x_andV, x_orV, x_notV, x_ifE, x_eqI, x_neI, x_eqB, x_neB, x_tbm, x_never, x_make, x_meth, x_isII, x_isIC, x_bool1, decide_eq_true_eq, Bool.false_eq_true, if_false, if_true, List.append_nil, List.nil_append, List.cons_append]
      exact k _
end SpX

set_option Elab.async false
set_option linter.all false
set_option maxRecDepth 100000
set_option maxHeartbeats 2000000
/-! dicts whose keys are tuples: setdefault, and the comprehension {k: v for ..}. -/
namespace SpX
open PySem PySem.Spec PyProof.Rows L2
theorem _root_.L2.RelO.of_some {o : Option V} {u : Value} (r : RelO o (some u)) : ∃ v, o = some v ∧ RelV v u := by
  cases o with
  | none => exact (show False from r).elim
  | some v => exact ⟨v, rfl, r⟩
theorem _root_.L2.RelO.of_none {o : Option V} (r : RelO o none) : o = none := by
  cases o with
  | none => rfl
  | some v => exact (show False from r).elim
section
variable {X : Cx} {pins : List (Addr × Obj)} {σ : L2.St} {H : Hp} {s : Shared}
/-- what a written entry makes of the tracked dict -/
theorem dt_stored {a b : Addr} {kvs : List (List L2.Key × V)} {k : List L2.Key} {v : V} {r : Value} {xs : List (List L2.Key × Addr × Value)} {h' : Heap} {t' : Nat} (I : Inv X pins σ H s) (ea : H a = some (.dT kvs)) (eb : H b = some (.tup (k.map kV)))
    (hl : kvs.length < sizeLine) (rel : KT H kvs xs) (hd : (a == sysModules) = false) (rv : RelV v r) (dd : h'.DictOfH (tupleKind (mixKind X.prog X.w)) a (storedH xs k b r)) (hs : Heap.SameBut a s.heap h') :
    Inv X pins σ (upd H a (.dT (putK kvs k v))) { s with heap := h', toks := t' } := by
  obtain ⟨o, es, ep, ho, c1, c2, c3, _, c5⟩ := dd
  have le : (putK kvs k v).length ≤ sizeLine := Nat.le_trans (length_putK kvs k v) hl
  refine d_write I (by rw [ea]; trivial) hs ⟨o, ho⟩ ⟨le, hd, _, KT.keeps (rel.put k eb rv) fun c ys ec => ?_, o, es, ep, ho, c1, c2, c3, c5⟩
  have : c ≠ a := fun z => by
    rw [z, ea] at ec
    cases ec
  rw [upd_ne this]
  exact ec
theorem dt_short {kvs : List (List L2.Key × V)} {xs : List (List L2.Key × Addr × Value)} (rel : KT H kvs xs) (z : kvs.length ≤ sizeLine) : xs.length ≤ sizeLine := by
  rw [← Paired.length rel]
  exact z
/-- d.setdefault(t, z) -/
theorem dt_setdefault {a b : Addr} {kvs : List (List L2.Key × V)} {k : List L2.Key} {v : V} {r : Value} {A : Around} {E : Value → Shared → Prop} {Q : Value → Shared → Prop} (hu : A.units + 1 < cLine) (I : Inv X pins σ H s) (ea : H a = some (.dT kvs)) (eb : H b = some (.tup (k.map kV)))
    (hl : kvs.length < sizeLine) (rv : RelV v r) (old : ∀ v0, valV kvs k = some v0 → ∀ (w' : Value) (s' : Shared), Inv X pins σ H s' → RelV v0 w' → Q w' s')
    (new : valV kvs k = none → ∀ s', Inv X pins σ (upd H a (.dT (putK kvs k v))) s' → Q r s') : wpAny (model X.prog X.w) A (call (.builtin "dict.setdefault") [.ref a, .ref b, r]) Q E s := by
  obtain ⟨z, hd, xs, rel, dd⟩ := dt_of I.hok ea
  refine call_setdefault_heap (hsz := dt_short rel z) (tupleKind_room_in1 hu) (key_of I.hok eb) hd dd (fun p hp => ?_) fun hn h' dd' hs => ?_
  · have q := rel.val k
    rw [hp] at q
    obtain ⟨v0, e0, r0⟩ := RelO.of_some q
    exact old v0 e0 _ _ (I.tok _) r0
  · have q := rel.val k
    rw [hn] at q
    exact new (RelO.of_none q) _ (dt_stored I ea eb hl rel hd rv dd' hs)
/-- a comprehension's entry in a dict of tuples -/
theorem dt_dictSet {a b : Addr} {kvs : List (List L2.Key × V)} {k : List L2.Key} {v : V} {r : Value} {A : Around} {E : Value → Shared → Prop} {Q : Unit → Shared → Prop} (hu : A.units + 1 < cLine) (I : Inv X pins σ H s) (ea : H a = some (.dT kvs)) (eb : H b = some (.tup (k.map kV)))
    (hl : kvs.length < sizeLine) (rv : RelV v r) (new : ∀ s', Inv X pins σ (upd H a (.dT (putK kvs k v))) s' → Q () s') : wpAny (model X.prog X.w) A (dictSet a (.ref b) r) Q E s := by
  obtain ⟨z, hd, xs, rel, dd⟩ := dt_of I.hok ea
  exact wpAny_dictSet_heap (hsz := dt_short rel z) (show (tupleKind (mixKind X.prog X.w)).room A from by show A.units < cLine; omega) (key_of I.hok eb) dd fun h' dd' hs => new _ (dt_stored I ea eb hl rel hd rv dd' hs)
end
/-- d.setdefault(t, z), t a tuple -/
def tSetdT (td ty tx : TE) : TE := fun σ H Q => td σ H fun x H1 => ∃ a kv0, x = .ref a ∧ H1 a = some (.dT kv0) ∧ ty σ H1 fun y H2 => tx σ H2 fun z H3 => ∃ (kvs : List (List L2.Key × V)) (k : List L2.Key) (b : Addr), H3 a = some (.dT kvs) ∧ y = .ref b ∧ H3 b = some (.tup (k.map kV)) ∧
  kvs.length < sizeLine ∧ (∀ v, valV kvs k = some v → Q v H3) ∧ (valV kvs k = none → Q z (upd H3 a (.dT (putK kvs k z))))
theorem pe_setdT {X : Cx} {o e f : Expr} {td ty tx : TE} {apos cpos : Pos} (hu : X.A.units + 1 < cLine) (ho : PE X o td) (he : PE X e ty) (hf : PE X f tx) (m : M2 X o "setdefault" apos e f cpos) : PE X (.Call (.Attribute o "setdefault" apos) [e, f] [] cpos) (tSetdT td ty tx) := by
  refine ⟨fun pins s σ H Q I h => wpAny_Call_method m.base m.few m.line PySem.F.plainAttrs_dict PySem.F.slot_dict_setdefault PySem.F.type_dict_setdefault (thn (ho.run pins s σ H _ I h) fun u s1 q => ?_)⟩
  obtain ⟨x, H1, I1, rx, a, kv0, rfl, d, q1⟩ := q
  cases rx
  have at1 := isD_at I1 (.inr ⟨kv0, .inl d⟩)
  refine ⟨at1.1, at1.2.1, ?_⟩
  rw [m.trees]
  refine Calls.callWith_builtin rfl (Calls.evalArgs_plain (Calls.spliced_cons (thn (he.run pins s1 σ H1 _ I1 q1) fun u2 s2 q2 => ?_)))
  obtain ⟨y, H2, I2, ry, q2⟩ := q2
  refine Calls.spliced_cons (thn (hf.run pins s2 σ H2 _ I2 q2) fun u3 s3 q3 => Calls.spliced_nil ?_)
  obtain ⟨z, H3, I3, rz, kvs, k, b, ea, rfl, eb, hl, k1, k2⟩ := q3
  cases ry
  exact dt_setdefault hu I3 ea eb hl rz (fun v0 h0 w' s4 I4 rw' => ⟨v0, _, I4, rw', k1 v0 h0⟩) fun hn s4 I4 => ⟨z, _, I4, rz, k2 hn⟩
/-! ### {k: v for ..} into an object of any kind that dictSet serves -/
/-- o0 : what the empty dict is tracked as; Put D H y z H' : what an entry makes of the heap -/
def tDcG (o0 : HO) (Put : Addr → Hp → V → V → Hp → Prop) (wi : TI) (g : TG) (tt : TT) (tk tv : TE) (vs : List Nat) : TE := fun σ H Q => wi σ H fun J H1 => ∀ D, H1 D = none → ∃ W : Nat → Nat → Hp → Prop, (∃ m, W 0 m (upd H1 D o0)) ∧
  ∀ i m H, W i m H → (J.stop i H ∧ Q (.ref D) H) ∨ (J.go i H ∧ ∃ Nx : Hp → Prop, (∀ H', Nx H' → ∃ m', m' < m ∧ W (i + 1) m' H') ∧ ∀ x H', J.yld i H x H' → g x (wipe σ vs) H' fun σ2 H2 => wipe σ2 vs = wipe σ vs ∧
    tt σ2 H2 fun b H3 => bif b then tk σ2 H3 fun y H4 => tv σ2 H4 fun z H5 => ∃ H6, Put D H5 y z H6 ∧ Nx H6 else Nx H3)
/-- what is asked of the kind -/
structure DKind (X : Cx) (o0 : HO) (Put : Addr → Hp → V → V → Hp → Prop) : Prop where
  born : ∀ (H : Hp) (h : Heap), sysModules < h.objs.size → ObjOk X.prog X.w H (h.push { cls := .type "dict", data := .dict #[] }) h.objs.size o0
  put : ∀ (Y : Cx) (pins : List (Addr × Obj)) (σ : L2.St) (H H' : Hp) (s : Shared) (D : Addr) (y z : V) (u r : Value) (E : Value → Shared → Prop) (Q : Unit → Shared → Prop), Y.prog = X.prog → Y.w = X.w → Y.A = X.A → Inv Y pins σ H s → Put D H y z H' → RelV y u → RelV z r →
    (∀ s', Inv Y pins σ H' s' → Q () s') → wpAny (model X.prog X.w) X.A (dictSet D u r) Q E s
/-- dicts of tuples -/
def PutT (D : Addr) (H : Hp) (y z : V) (H' : Hp) : Prop := ∃ (kvs : List (List L2.Key × V)) (k : List L2.Key) (b : Addr), H D = some (.dT kvs) ∧ y = .ref b ∧ H b = some (.tup (k.map kV)) ∧ kvs.length < sizeLine ∧ H' = upd H D (.dT (putK kvs k z))
theorem kindT {X : Cx} (hu : X.A.units + 1 < cLine) : DKind X (.dT []) PutT where
  born H h hb := dt_empty h hb
  put Y pins σ H H' s D y z u r E Q e1 e2 e3 I p ry rz k := by
    obtain ⟨kvs, kk, b, ea, rfl, eb, hl, rfl⟩ := p
    cases ry
    rw [← e1, ← e2]
    exact dt_dictSet hu I ea eb hl rz k
section
variable {X : Cx} {o0 : HO} {Put : Addr → Hp → V → V → Hp → Prop} {kx vx tg iter : Expr} {ifs : List Expr} {scope : Scope} {own : List (Str × Nat)} {wi : TI} {g : TG} {tt : TT} {tk tv : TE} {pos : Pos}
theorem pe_dcG (K : DKind X o0 Put) (calm : X.calm = true) (nd : X.N.Nodup) (hi : PI X tg iter wi) (ok : BlkOk X.N X.env.scope scope own)
    (hg : ∀ s H C cl fp, PG (X.blk s H scope (compEnvC scope cl C X.env) fp) tg g)
    (ht : ∀ s H C cl fp, PTs (X.blk s H scope (compEnvC scope cl C X.env) fp) ifs tt)
    (hk : ∀ s H C cl fp, PE (X.blk s H scope (compEnvC scope cl C X.env) fp) kx tk)
    (hv : ∀ s H C cl fp, PE (X.blk s H scope (compEnvC scope cl C X.env) fp) vx tv)
    (hf : ∀ x, foldedSetIterable iter X.env x = pure x := by intro _; rfl) :
    PE X (.DictComp kx vx [⟨tg, iter, ifs, 0⟩] scope pos) (tDcG o0 Put wi g tt tk tv (own.map (·.2))) := by
  refine ⟨fun pins s σ H Q I h => ?_⟩
  rw [arm_eval_DictComp]
  have frees : ∀ y ∈ scope.names, y.2 = .free → ∃ c, X.env.cells.lookup y.1 = some c := fun y hy e => (ok.free y hy e).elim (fun k => I.ok.has _ (.inl k)) fun k => I.ok.has _ (.inr k)
  refine wpAny_comprehension_free (use := none) rfl hf (closure_ok frees) ok.kind (fun y hy e => by rw [ok.uniq y hy, e]) (thn (hi.run pins s σ H _ I h) fun xv s1 hx => thn hx fun itv s2 got => ?_)
  obtain ⟨it, fp, tn, J, Ha, rfl, Ia, T, sta, fpa, q⟩ := got
  refine wpAny_newObj_type (newEnv_comp ?_)
  -- the dict
  have In : Inv X pins σ (upd Ha s2.heap.objs.size o0) { s2 with heap := s2.heap.push { cls := .type "dict", data := .dict #[] } } :=
    Ia.laid (t' := s2.toks) (fun b o e => Heap.get?_push_of_some _ e) (Nat.le_refl _) (K.born _ _ Ia.big)
  obtain ⟨W, ⟨m0, w0⟩, turn⟩ := q s2.heap.objs.size (Ia.hok.fresh (Nat.le_refl _))
  have bel : ∀ b ∈ fp, b < s2.heap.objs.size := fun b hb => (T.obj _ _ sta b hb).elim fun o h => Heap.lt_size h.1
  have fpn : ∀ b ∈ fp, FpOk X pins (upd Ha s2.heap.objs.size o0) b ∧ b < (s2.heap.push { cls := .type "dict", data := .dict #[] }).objs.size := fun b hb =>
    ⟨⟨by rw [upd_ne (Nat.ne_of_lt (bel b hb))]; exact (fpa b hb).1, (fpa b hb).2⟩, by rw [Heap.size_push]; exact Nat.lt_succ_of_lt (bel b hb)⟩
  have stn : tn 0 (s2.heap.push { cls := .type "dict", data := .dict #[] }) := T.keep _ _ _ sta fun b _ o e => Heap.get?_push_of_some _ e
  have Ib := block_start In ok nd fpn
  generalize eD : s2.heap.objs.size = D at *
  generalize eS : ({ s2 with heap := s2.heap.push { cls := .type "dict", data := .dict #[] } } : Shared) = sn at *
  have eh : s2.heap.push { cls := .type "dict", data := .dict #[] } = sn.heap := by rw [← eS]
  rw [eh] at fpn stn
  have hg := hg sn (upd Ha D o0) sn.heap.objs.size (cellsFrom (sn.heap.objs.size + 1) scope.names (cloFrom X.env.cells scope.names [])) fp
  have ht := ht sn (upd Ha D o0) sn.heap.objs.size (cellsFrom (sn.heap.objs.size + 1) scope.names (cloFrom X.env.cells scope.names [])) fp
  have hk := hk sn (upd Ha D o0) sn.heap.objs.size (cellsFrom (sn.heap.objs.size + 1) scope.names (cloFrom X.env.cells scope.names [])) fp
  have hv := hv sn (upd Ha D o0) sn.heap.objs.size (cellsFrom (sn.heap.objs.size + 1) scope.names (cloFrom X.env.cells scope.names [])) fp
  show codeAny _ _ (.compStart (.DictComp kx vx [⟨tg, iter, ifs, 0⟩] scope pos) 0 (.ref it) (.ref D) (compEnvC scope (cellsFrom (sn.heap.objs.size + 1) scope.names (cloFrom X.env.cells scope.names [])) sn.heap.objs.size X.env)) _ _
  have clear : ∀ b ∈ fp, upd Ha D o0 b = none := fun b hb => (fpn b hb).1.1
  generalize ec : compEnvC scope (cellsFrom (sn.heap.objs.size + 1) scope.names (cloFrom X.env.cells scope.names [])) sn.heap.objs.size X.env = ce at *
  have loc : ce.locals = sn.heap.objs.size := by rw [← ec]; rfl
  generalize eH : upd Ha D o0 = Hn at *
  have st4 : tn 0 (pushCells (sn.heap.push { cls := .type "dict", data := .dict #[] }) scope.names) := T.keep _ _ _ stn fun b _ o e => pushCells_keeps _ _ _ _ (Heap.get?_push_of_some _ e)
  generalize e4 : ({ sn with heap := pushCells (sn.heap.push { cls := .type "dict", data := .dict #[] }) scope.names } : Shared) = sb at *
  have st4 : tn 0 sb.heap := by rw [← e4]; exact st4
  have free : ∀ {σ1 : L2.St} {H1 : Hp} {s1 : Shared}, Inv (X.blk sn Hn scope ce fp) [] σ1 H1 s1 → (∀ b ∈ fp, H1 b = none) → ∀ b ∈ fp, FpOk (X.blk sn Hn scope ce fp) [] H1 b := fun {σ1 H1 s1} I1 no b hb => by
    have x := I1.ok.exf b hb
    exact ⟨no b hb, x.1, I1.ok.exfs b hb, .inl hb, fun y c e => x.2 y c e, fun p hp => by cases hp⟩
  suffices loop : codeAny (model X.prog X.w) X.A (.compLoop (.DictComp kx vx [⟨tg, iter, ifs, 0⟩] scope pos) 0 (.ref it) (.ref D) ce) (compPost (model X.prog X.w) X.A X.xe none (EP X pins σ Q) (.ref D) sn.heap.objs.size) sb from
    codeAny_compStart_dict loop (T.self X.A 0 _ _ _ st4 loop)
  refine compLoop_anyD (fun n s1 => ∃ i H1, Inv (X.blk sn Hn scope ce fp) [] (wipe σ (own.map (·.2))) H1 s1 ∧ tn i s1.heap ∧ (∀ b ∈ fp, H1 b = none) ∧ W i n H1) ?_ m0 ⟨0, Hn, Ib, st4, clear, w0⟩
  rintro n s1 ⟨i, H1, I1, t1, no1, w1⟩
  obtain ⟨stop, qd⟩ | ⟨go, Nx, next, step⟩ := turn i n H1 w1
  · refine thnF (T.done (X.blk sn Hn scope ce fp) rfl rfl rfl calm i [] s1 _ H1 (fun _ _ => False) I1 (free I1 no1) t1 stop) fun r s2 ⟨hr, I2⟩ => ?_
    subst hr
    have back : Inv X pins σ H1 s2 := In.call' (ch := fp) I2.os I2.base I2.hok I2.bare fun b hb => by
      have f := (fpn b hb).1.2
      exact ⟨f.2.2.1, f.1, f.2.2.2.1, f.2.2.2.2⟩
    obtain ⟨m, hn, _⟩ := I2.loc
    have hn : s2.heap.Ns ce.locals m := hn
    have nC : H1 ce.locals = none := I2.free
    rw [loc] at hn nC
    obtain ⟨f0, f1, f2, f3, f4, f5⟩ := In.fpOk (H' := H1) (Nat.le_refl _) nC
    exact ⟨m, hn, fun h2 same => ⟨.ref D, H1, back.turned (t' := s2.toks) (fun b o hb e => (same.2 b hb).trans e) f0 f1 f3 f4 f5, rfl, qd⟩⟩
  · refine thnF (T.item (X.blk sn Hn scope ce fp) rfl rfl rfl calm i [] s1 _ H1 (fun _ _ => False) I1 (free I1 no1) t1 go) fun r s2 ⟨u, hr, h2⟩ => ?_
    subst hr
    refine thnF h2 fun _ s3 ⟨x, H3, I3, r3, y3, t3, no3⟩ => ?_
    refine thnF (hg.run _ s3 _ H3 x u _ (I3.pinned (free I3 no3) (T.obj _ _ t3)) r3 (step x H3 y3)) fun _ s4 ⟨σ4, H4, I4, eq4, q4⟩ => ?_
    refine thnF (ht.run _ s4 σ4 H4 _ I4 q4) fun b s5 ⟨H5, I5, q5⟩ => ?_
    have fin : ∀ {s6 : Shared} {H6 : Hp}, Inv (X.blk sn Hn scope ce fp) ([] ++ pinsAt fp s3.heap) σ4 H6 s6 → Nx H6 → ∃ m, m < n ∧ ∃ i H1, Inv (X.blk sn Hn scope ce fp) [] (wipe σ (own.map (·.2))) H1 s6 ∧ tn i s6.heap ∧ (∀ b ∈ fp, H1 b = none) ∧ W i m H1 := by
      intro s6 H6 I6 nx
      obtain ⟨m, lt, w6⟩ := next H6 nx
      have pin : ∀ b ∈ fp, ∀ o, s3.heap.get? b = some o → s6.heap.get? b = some o ∧ H6 b = none := fun b hb o e => by
        have z := I6.pin (b, o) (List.mem_append_right _ (List.mem_append_right _ (mem_pinsAt hb e)))
        exact ⟨z.1, z.2.1⟩
      have len : (wipe σ (own.map (·.2))).length = σ4.length := by rw [← eq4, wipe_length]
      refine ⟨m, lt, i + 1, H6, I6.unpinned.weak len fun j v e => ?_, T.keep _ _ _ t3 fun b hb o e => (pin b hb o e).1, fun b hb => ?_, w6⟩
      · rw [← eq4] at e
        exact (wipe_some e).1
      · obtain ⟨o, e, _⟩ := T.obj _ _ t3 b hb
        exact (pin b hb o e).2
    cases b with
    | false => exact fin I5 q5
    | true =>
      refine thnF (hk.run _ s5 σ4 H5 _ I5 q5) fun u6 s6 ⟨y, H6, I6, r6, q6⟩ => ?_
      refine thnF (hv.run _ s6 σ4 H6 _ I6 q6) fun u7 s7 ⟨z, H7, I7, r7, H8, pp, nx⟩ => ?_
      exact K.put (X.blk sn Hn scope ce fp) _ σ4 H7 H8 s7 D y z u6 u7 _ _ rfl rfl rfl I7 pp r6 r7 fun s8 I8 => fin I8 nx
end
end SpX

set_option Elab.async false
set_option linter.all false
set_option maxRecDepth 100000
set_option maxHeartbeats 2000000
/-! Built-ins over tuples, and of math. -/
namespace SpX
open PySem PySem.Spec PyProof.Rows L2
section
variable {prog : Program} {w : World} {A : Around} {E : Value → Shared → Prop} {s : Shared}
theorem sum_tuple {t : Addr} {its : List Value} {ns : List Int} {Q : Value → Shared → Prop} (calm : A.handled = none) (ht : s.heap.IsTuple t its.toArray) (hi : IntsAre its ns)
    (h : ∀ h' tk t', (∀ b o, s.heap.get? b = some o → h'.get? b = some o) → Q (.int ns.sum t') { s with heap := h', toks := tk }) : wpAny (model prog w) A (call (.builtin "sum") [.ref t]) Q E s := by
  obtain ⟨xs, e⟩ := hi.allInts.items
  have hn : numsOf (intItems xs).toList = ns := by
    rw [← e]
    exact hi.numsOf
  rw [nums_intItems] at hn
  rw [e] at ht
  have lt : t < s.heap.objs.size := by
    obtain ⟨_, q, _⟩ := ht
    exact Heap.lt_size q
  refine call_sum_walkG (wpAny_pyIter_tuple ht ?_)
  refine ⟨_, [s.heap.objs.size, t], [s.heap.objs.size], _, _, _, numAt xs, rfl, Walks.tuple (A := A.in1) calm _ t (Nat.ne_of_lt lt) (intItems xs), ⟨⟨_, Heap.get?_push_size _ rfl, rfl, rfl⟩, ht.at fun o q => Heap.get?_push_of_some _ q⟩, fun b hb => ?_, fun _ _ => intItems_at, fun h' tk t' hk => ?_⟩
  · show b < (s.heap.push _).objs.size
    rw [Heap.size_push]
    rcases List.mem_cons.mp hb with z | hb
    · rw [z]
      exact Nat.lt_succ_self _
    · rw [List.mem_singleton.mp hb]
      exact Nat.lt_succ_of_lt lt
  · have old : ∀ b o, s.heap.get? b = some o → h'.get? b = some o := fun b o q => by
      refine hk b o (fun hm => ?_) (Heap.get?_push_of_some _ q)
      have z := Heap.lt_size q
      rw [List.mem_singleton.mp hm] at z
      exact Nat.lt_irrefl _ z
    have fin := h h' tk t' old
    have es : (intItems xs).size = xs.size := by simp [intItems]
    rw [es, preSum_eq, List.take_of_length_le (by simp), hn]
    exact fin
end
/-- the numbers of a tracked list or tuple -/
def rSumA : List V → Hp → VK → Prop := fun vs H Q => ∃ (a : Addr) (ns : List Int), vs = [.ref a] ∧ (H a = some (.lst (ns.map V.int)) ∨ H a = some (.tup (ns.map V.int))) ∧ Q (.int ns.sum) H
theorem call_sumA {X : Cx} (hc : X.calm = true) : CallR X (.builtin "sum") rSumA := by
  intro pins s σ H vs us Q I r h
  obtain ⟨a, ns, rfl, h1 | h1, q⟩ := h
  · exact cr_sum hc pins s σ H _ us Q I r ⟨a, ns, rfl, .inl (.inl h1), q⟩
  · obtain ⟨its, rv, hl, _⟩ := I.tuple (SqT.at (K := X.K) h1)
    rw [Vals.ref1 r]
    exact sum_tuple (I.ok.hd hc) hl rv.ints fun h' tk t' hk => ⟨.int _, H, I.kept hk, ⟨_, rfl⟩, q⟩
/-- the factorial, by products -/
def facI (n : Int) : Int := ((Builtin.Math.factorialNat n.toNat : Nat) : Int)
def rFac : List V → Hp → VK → Prop := fun vs H Q => ∃ n : Int, vs = [.int n] ∧ 0 ≤ n ∧ n ≤ 20000 ∧ Q (.int (facI n)) H
theorem cr_fac {X : Cx} : CallR X (.builtin "math.factorial") rFac := by
  intro pins s σ H vs us Q I r h
  obtain ⟨n, rfl, h0, h1, q⟩ := h
  obtain ⟨u, rfl, rx⟩ := vals1 r
  obtain ⟨t, rfl⟩ := rx
  exact PySem.W.mc_factorial h0 h1 fun _ => ⟨.int _, H, I.tok _, ⟨_, rfl⟩, q⟩
section
variable {σ : L2.St} {H : Hp} {Q : VK} {p : Addr} {ns : List Int} {n : Int}
theorem x_sumT (h : H p = some (.tup (ns.map V.int))) : rSumA [.ref p] H Q = Q (.int ns.sum) H := propext (Iff.intro
  (fun ⟨_, ms, e1, h1, q⟩ => by
    cases e1
    rw [h] at h1
    rcases h1 with h1 | h1
    · cases h1
    · have e : ns.map V.int = ms.map V.int := by
        injection h1 with h1
        injection h1
      have e2 : ns = ms := List.map_inj_right (fun _ _ z => by injection z) |>.mp e
      rw [e2]
      exact q)
  (fun q => ⟨_, _, rfl, .inr h, q⟩))
theorem x_sumL (h : H p = some (.lst (ns.map V.int))) : rSumA [.ref p] H Q = Q (.int ns.sum) H := propext (Iff.intro
  (fun ⟨_, ms, e1, h1, q⟩ => by
    cases e1
    rw [h] at h1
    rcases h1 with h1 | h1
    · have e : ns.map V.int = ms.map V.int := by
        injection h1 with h1
        injection h1
      have e2 : ns = ms := List.map_inj_right (fun _ _ z => by injection z) |>.mp e
      rw [e2]
      exact q
    · cases h1)
  (fun q => ⟨_, _, rfl, .inl h, q⟩))
theorem x_fac (h0 : 0 ≤ n) (h1 : n ≤ 20000) : rFac [.int n] H Q = Q (.int (facI n)) H := propext (Iff.intro
  (fun ⟨_, e1, _, _, q⟩ => by
    cases e1
    exact q)
  (fun q => ⟨_, rfl, h0, h1, q⟩))
end
/-! ### tuples and truths of tracked things -/
theorem int_map_inj {ns ms : List Int} (e : ns.map V.int = ms.map V.int) : ns = ms := List.map_inj_right (fun _ _ z => by injection z) |>.mp e
/-- tuple(list), tuple(tuple) -/
def rTupA : List V → Hp → VK → Prop := fun vs H Q => ∃ p xs, vs = [.ref p] ∧ ((H p = some (.lst xs) ∧ ∀ l, H l = none → Q (.ref l) (upd H l (.tup xs))) ∨ (H p = some (.tup xs) ∧ Q (.ref p) H))
/-- all(list of truths) -/
def rAllA : List V → Hp → VK → Prop := fun vs H Q => ∃ (a : Addr) (bs : List Bool), vs = [.ref a] ∧ H a = some (.lst (bs.map V.bl)) ∧ Q (.bl (bs.all id)) H
/-- tuple < tuple, of ints -/
def rLtA : R2 := fun x y H Q => ∃ (a b : Addr) (ns ms : List Int), x = .ref a ∧ y = .ref b ∧ H a = some (.tup (ns.map V.int)) ∧ H b = some (.tup (ms.map V.int)) ∧ Q (.bl (HT.lexLt ns ms)) H
/-- list(list or tuple) -/
inductive IsB (H : Hp) : List V → Bool → Prop where
  | ll {p : Addr} {xs : List V} (h : H p = some (.lst xs)) : IsB H [.ref p, .ty "list"] true
  | tt {p : Addr} {xs : List V} (h : H p = some (.tup xs)) : IsB H [.ref p, .ty "tuple"] true
  | bb (b : Bool) : IsB H [.bl b, .ty "bool"] true
theorem IsB.yes {H : Hp} {xs : List V} {b : Bool} (h : IsB H xs b) : b = true := by cases h <;> rfl
def rIsB : List V → Hp → VK → Prop := fun xs H Q => ∃ b, IsB H xs b ∧ Q (.bl b) H
section
variable {X : Cx}
theorem call_tupA : CallR X (.type "tuple") rTupA := by
  intro pins s σ H xs us Q I r h
  obtain ⟨p, ys, rfl, ⟨h1, q⟩ | ⟨h1, q⟩⟩ := h
  · exact call_tuple_of pins s σ H _ us Q I r ⟨p, ys, rfl, .inl ⟨.inl (.inl h1), q⟩⟩
  · exact call_tuple_of pins s σ H _ us Q I r ⟨p, ys, rfl, .inr ⟨.inl (.inl h1), q⟩⟩
theorem cr_allA (hc : X.calm = true) : CallR X (.builtin "all") rAllA := by
  intro pins s σ H xs us Q I r h
  obtain ⟨a, bs, rfl, h1, q⟩ := h
  exact cr_all hc pins s σ H _ us Q I r ⟨a, bs, rfl, .inl (.inl h1), q⟩
theorem op_ltA (hu : X.A.units < cLine) : OpR X (compareOp .Lt) rLtA := by
  intro pins s σ H x y v u Q I rx ry h
  obtain ⟨a, b, ns, ms, rfl, rfl, h1, h2, q⟩ := h
  exact op_ltT hu pins s σ H _ _ v u Q I rx ry ⟨a, b, ns, ms, rfl, rfl, .inl (.inl h1), .inl (.inl h2), q⟩
theorem call_isB : CallR X (.builtin "isinstance") rIsB := by
  intro pins s σ H xs us Q I r h
  obtain ⟨b, h, q⟩ := h
  cases h with
  | ll e => exact call_isi pins s σ H _ us Q I r ⟨_, _, _, _, _, rfl, .ty _, .base (.lst e), kit_ty (by decide +kernel), q⟩
  | tt e => exact call_isi pins s σ H _ us Q I r ⟨_, _, _, _, _, rfl, .ty _, .base (.tup e), kit_ty (by decide +kernel), q⟩
  | bb c => exact call_isi pins s σ H _ us Q I r ⟨_, _, _, _, _, rfl, .ty _, .base (.bl c), kit_ty (by decide +kernel), q⟩
end
section
variable {σ : L2.St} {H : Hp} {Q : VK} {p q : Addr} {xs : List V} {ns ms : List Int} {bs : List Bool}
theorem x_tupL (h : H p = some (.lst xs)) : rTupA [.ref p] H Q = ∀ l, H l = none → Q (.ref l) (upd H l (.tup xs)) := propext (Iff.intro
  (fun ⟨_, _, e1, z⟩ => by
    cases e1
    rw [h] at z
    rcases z with ⟨z, k⟩ | ⟨z, k⟩
    · cases z
      exact k
    · cases z)
  (fun k => ⟨_, _, rfl, .inl ⟨h, k⟩⟩))
theorem x_tupT (h : H p = some (.tup xs)) : rTupA [.ref p] H Q = Q (.ref p) H := propext (Iff.intro
  (fun ⟨_, _, e1, z⟩ => by
    cases e1
    rw [h] at z
    rcases z with ⟨z, k⟩ | ⟨z, k⟩
    · cases z
    · exact k)
  (fun k => ⟨_, _, rfl, .inr ⟨h, k⟩⟩))
theorem x_ltA (h : H p = some (.tup (ns.map V.int))) (h' : H q = some (.tup (ms.map V.int))) : rLtA (.ref p) (.ref q) H Q = Q (.bl (HT.lexLt ns ms)) H := propext (Iff.intro
  (fun ⟨_, _, _, _, e1, e2, h1, h2, k⟩ => by
    cases e1; cases e2
    rw [h] at h1
    rw [h'] at h2
    injection h1 with h1
    injection h1 with h1
    injection h2 with h2
    injection h2 with h2
    rw [int_map_inj h1, int_map_inj h2]
    exact k)
  (fun k => ⟨_, _, _, _, rfl, rfl, h, h', k⟩))
theorem bl_map_inj {as bs : List Bool} (e : as.map V.bl = bs.map V.bl) : as = bs := List.map_inj_right (fun _ _ z => by injection z) |>.mp e
theorem x_allA (h : H p = some (.lst (bs.map V.bl))) : rAllA [.ref p] H Q = Q (.bl (bs.all id)) H := propext (Iff.intro
  (fun ⟨_, _, e1, h1, k⟩ => by
    cases e1
    rw [h] at h1
    injection h1 with h1
    injection h1 with h1
    rw [bl_map_inj h1]
    exact k)
  (fun k => ⟨_, _, rfl, h, k⟩))
theorem x_isLL (h : H p = some (.lst xs)) : rIsB [.ref p, .ty "list"] H Q = Q (.bl true) H := propext (Iff.intro (fun ⟨_, z, k⟩ => by rw [z.yes] at k; exact k) fun k => ⟨_, .ll h, k⟩)
theorem x_isTT (h : H p = some (.tup xs)) : rIsB [.ref p, .ty "tuple"] H Q = Q (.bl true) H := propext (Iff.intro (fun ⟨_, z, k⟩ => by rw [z.yes] at k; exact k) fun k => ⟨_, .tt h, k⟩)
theorem x_isBB {b : Bool} : rIsB [.bl b, .ty "bool"] H Q = Q (.bl true) H := propext (Iff.intro (fun ⟨_, z, k⟩ => by rw [z.yes] at k; exact k) fun k => ⟨_, .bb b, k⟩)
theorem x_lenT (h : H p = some (.tup xs)) : rLenA [.ref p] H Q = Q (.int xs.length) H := propext (Iff.intro
  (fun ⟨_, _, e1, h1, k⟩ => by
    cases e1
    rw [h] at h1
    rcases h1 with h1 | h1
    · cases h1
    · cases h1
      exact k)
  (fun k => ⟨_, _, rfl, .inr h, k⟩))
theorem x_listT (h : H p = some (.tup xs)) : rListA [.ref p] H Q = ∀ l, H l = none → Q (.ref l) (upd H l (.lst xs)) := propext (Iff.intro
  (fun ⟨_, _, e1, h1, k⟩ => by
    cases e1
    rw [h] at h1
    rcases h1 with h1 | h1
    · cases h1
    · cases h1
      exact k)
  (fun k => ⟨_, _, rfl, .inr h, k⟩))
theorem x_isN {ta : TE} : tIsN ta σ H Q = ta σ H (fun x H1 => Q (.bl (decide (x = .non))) H1) := rfl
theorem x_notN {ta : TE} : tNotN ta σ H Q = ta σ H (fun x H1 => Q (.bl (!decide (x = .non))) H1) := rfl
end
end SpX

set_option Elab.async false
set_option linter.all false
set_option maxRecDepth 100000
set_option maxHeartbeats 2000000
/-! sorted(xs, key=f), f a def that gives tuples of ints: over Inv (a promise says nothing of generators, so the loop over the keys goes over Inv). -/
namespace SpX
open PySem PySem.Spec PyProof.Rows PySem.W L2
section
variable {X : Cx} {CX : CXT} {k : Nat} {f : Addr} {fd : FuncData} {ps : List Str} {sp : Sp} {E : XK} {pins : List (Addr × Obj)} {σ : L2.St} {H : Hp} {s : Shared}
/-- the callee runs below a builtin; its own way out -/
theorem run_fnR {A : Around} {Q : VK} {us : List Value} {vs : List V} (sb : Sub X k A) (F : FnOk X.prog X.w X.K X.mg X.base CX k f fd ps sp) (hb : Binds X.K fd ps [])
    (I : Inv X pins σ H s) (r : Vals vs us) (h : sp vs H Q E) : wpAny (model X.prog X.w) A (call (.ref f) us) (EP X pins σ Q) (fun e s' => CX X.stack H s E e s') s := by
  have e0 : Env0 X.prog X.w X.K X.mg X.base A X.stack s H := by
    have e := I.env0
    exact ⟨by rw [sb.fr]; exact e.frames, e.mod, e.bs, e.bsz, e.funs, e.frf, e.hok, e.bare⟩
  have hl := F.len _ _ _ _ h
  have b := hb s us I.kIn (by rw [List.append_nil, ← r.length]; exact hl)
  rw [List.append_nil] at b
  refine wpAny_call (codeAny_mono (F.run A X.stack s H ⟨us, []⟩ us vs Q E sb.room e0 b r h) fun r s' hq => ?_)
  cases r with
  | error e => exact hq
  | ok fl =>
    cases fl with
    | ret u => exact I.after hq
    | next => exact False.elim hq
    | brk => exact False.elim hq
    | cont => exact False.elim hq
/-- an address that nothing knows of yet -/
structure Ours (X : Cx) (pins : List (Addr × Obj)) (b : Addr) : Prop where
  loc : b ≠ X.env.locals
  new : X.s_0.heap.objs.size ≤ b
  cel : ∀ x c, X.env.cells.lookup x = some c → c ≠ b
  pin : ∀ p ∈ X.pn ++ pins, p.1 ≠ b
  fs : b ∉ X.fs
theorem ours_of (I : Inv X pins σ H s) {b : Addr} (h : s.heap.objs.size ≤ b) : Ours X pins b := by
  refine ⟨fun e => ?_, Nat.le_trans I.sz h, fun x c hc e => ?_, fun p hp e => ?_, I.nofs h⟩
  · have := I.lt
    rw [← e] at this
    exact absurd this (Nat.not_lt.mpr h)
  · obtain ⟨v, o, ho, _⟩ := I.cell x c hc
    have := Heap.lt_size ho
    rw [e] at this
    exact absurd this (Nat.not_lt.mpr h)
  · have := Heap.lt_size (I.pin p hp).1
    rw [e] at this
    exact absurd this (Nat.not_lt.mpr h)
theorem freed_none {h : Heap} {b : Addr} : (h.update b fun o => { o with data := .freed }).get? b = none := by
  unfold Heap.get?
  rw [Heap.objs_update_self]
  cases h.objs[b]? <;> rfl
/-- what a sort leaves: all but two of ours is kept, one of them is the list now -/
theorem inv_sorted {a kS : Addr} {ys : List V} {h' : Heap} {tk : Nat} (I : Inv X pins σ H s) (oa : Ours X pins a) (ok : Ours X pins kS) (na : H a = none) (nk : H kS = none)
    (k : ∀ b o, b ≠ a → b ≠ kS → s.heap.get? b = some o → h'.get? b = some o) (new : ObjOk X.prog X.w (upd H a (.lst ys)) h' a (.lst ys)) : Inv X pins σ (upd H a (.lst ys)) { s with heap := h', toks := tk } := by
  have hin : ∀ b, b ∉ [a, kS] → b ≠ a ∧ b ≠ kS := fun b h => ⟨fun e => h (by simp [e]), fun e => h (by simp [e])⟩
  have ha : ∀ b u, H b = some u → b ≠ a := fun b u e z => by rw [z, na] at e; cases e
  have hk : ∀ b u, H b = some u → b ≠ kS := fun b u e z => by rw [z, nk] at e; cases e
  have hu : ∀ b u, H b = some u → upd H a (.lst ys) b = some u := fun b u e => by rw [upd_ne (ha b u e)]; exact e
  refine I.step (g' := s.gens) (d' := s.drawn) (ch := [a, kS]) (fun b hb => ?_) (fun b o _ _ hc e _ => k b o (hin b hc).1 (hin b hc).2 e) (fun b o _ _ hc e _ => ⟨o.slots, k b o (hin b hc).1 (hin b hc).2 e⟩)
    (fun b o hc _ n => by rw [upd_ne (hin b hc).1]; exact n) (fun b o hc e => ⟨o, k b o (hin b hc).1 (hin b hc).2 e⟩) (fun b _ e => hu b _ e) (fun b _ _ e => hu b _ e) (fun b ps e => ⟨#[], by rw [hu b _ e]; simp⟩) (fun m hm => ?_) (fun b u e => ?_) I.bare
  · rcases List.mem_cons.mp hb with e | e
    · subst e
      exact ⟨.inr oa.new, oa.loc, oa.cel, oa.pin⟩
    · rw [List.mem_singleton.mp e]
      exact ⟨.inr ok.new, ok.loc, ok.cel, ok.pin⟩
  · obtain ⟨o, es, ep, ho, r⟩ := hm
    exact ⟨o, es, ep, k _ o (Ne.symm oa.loc) (Ne.symm ok.loc) ho, r⟩
  · by_cases eb : b = a
    · subst eb
      rw [upd_same] at e
      cases e
      exact new
    · rw [upd_ne eb] at e
      refine (I.hok b u e).stay (fun c v hc q => ?_) (fun c q => hu c _ q) fun c xs q => hu c _ q
      rcases hc with z | z
      · rw [z] at q ⊢
        exact k b v eb (hk b u e) q
      · exact k c v (ha c _ z) (hk c _ z) q
/-- a key as data -/
def tupD (k : List Int) : PyData := .tuple (k.map PyData.int)
def KeyV (H : Hp) (v : Value) (k : List Int) : Prop := ∃ q, v = .ref q ∧ H q = some (.tup (k.map V.int))
theorem KeyV.same {H H' : Hp} {v : Value} {k : List Int} (h : KeyV H v k) (s : Same H H') : KeyV H' v k := by
  obtain ⟨q, e, h⟩ := h
  exact ⟨q, e, s _ _ h⟩
theorem dp_ints {K : PySem.W.Frag} {H : Hp} : ∀ k : List Int, DpAll K H (k.map V.int) (k.map PyData.int)
  | [] => .nil
  | i :: r => .cons (.int i) (dp_ints r)
theorem KeyV.reads {v : Value} {k : List Int} (h : KeyV H v k) (I : Inv X pins σ H s) : ∃ as, Reads s.heap v (tupD k) as := by
  obtain ⟨q, rfl, h⟩ := h
  exact Dp.reads I (tupD k) (.ref q) (.ref q) (.tup (SqT.at h) (dp_ints k)) rfl
theorem alike_ints : ∀ a b : List Int, alikeAll (a.map PyData.int) (b.map PyData.int) = true
  | [], _ => by simp [alikeAll]
  | _ :: _, [] => by simp [alikeAll]
  | x :: r, y :: t => by
    simp only [List.map_cons, alikeAll, alike, Bool.true_and]
    exact alike_ints r t
theorem alike_tups (ks : List (List Int)) : AllAlike (ks.map tupD) := by
  intro d hd d' hd'
  obtain ⟨a, _, rfl⟩ := List.mem_map.mp hd
  obtain ⟨b, _, rfl⟩ := List.mem_map.mp hd'
  show alike (.tuple _) (.tuple _) = true
  simp only [alike]
  exact alike_ints a b
theorem sortable_tups {ks : List (List Int)} (h : ∀ k ∈ ks, k ≠ []) : Sortable (ks.map tupD) := by
  refine .inl fun d hd => ?_
  obtain ⟨a, ha, rfl⟩ := List.mem_map.mp hd
  cases a with
  | nil => exact absurd rfl (h [] ha)
  | cons x r => exact ⟨_, _, rfl⟩
theorem depth_ints : ∀ k : List Int, PyData.depthAll (k.map PyData.int) = 0
  | [] => by simp [PyData.depthAll]
  | x :: r => by
    simp only [List.map_cons, PyData.depthAll, PyData.depth, depth_ints r]
    rfl
theorem depth_tup (k : List Int) : (tupD k).depth ≤ 64 := by
  unfold tupD
  simp only [PyData.depth, depth_ints]
  omega
theorem dataLe_tups {β : Type} (x : β → List Int) : dataLe false (fun b => tupD (x b)) = fun p q => decide (x p ≤ x q) := by
  funext p q
  rw [← congrFun (congrFun (dataLe_rows x) p) q]
  show (!dataLt (.tuple _) (.tuple _)) = (!dataLt (.list _) (.list _))
  rw [dataLt_tuple, dataLt_list]
theorem each_vals {β : Type} : ∀ {vs : List Value} {bs : List (V × β)}, EachIs (fun v b => RelV b.1 v) vs bs → Vals (bs.map (·.1)) vs
  | _, _, .nil => .nil
  | _, _, .cons h t => .cons h (each_vals t)
theorem vals_each : ∀ {xs : List V} {vs : List Value} {ks : List (List Int)}, Vals xs vs → ks.length = xs.length → EachIs (fun v (b : V × List Int) => RelV b.1 v) vs (xs.zip ks)
  | _, _, [], .nil, _ => .nil
  | _, _, _ :: _, .nil, h => by simp at h
  | _, _, [], .cons _ _, h => by simp at h
  | _, _, _ :: _, .cons r t, h => .cons r (vals_each t (by simpa using h))
/-- the items by their keys -/
def sortBy (xs : List V) (ks : List (List Int)) : List V := ((xs.zip ks).mergeSort fun p q => decide (p.2 ≤ q.2)).map (·.1)
theorem sort_out (xs : List V) (ks : List (List Int)) {vs out : List Value} {κ : Heap} {keys : List Value} (rv : Vals xs vs) (hl : ks.length = xs.length) (hk : EachIs (fun v d => ∃ as, Reads κ v d as) keys (ks.map tupD))
    (e : out = sortVals (dataKind κ (ks.map tupD)) false keys vs) : Vals (sortBy xs ks) out := by
  have em : (xs.zip ks).map (fun p => tupD p.2) = ks.map tupD := by
    rw [← List.map_snd_zip (l₁ := xs) (l₂ := ks) (by omega), List.map_map, List.map_snd_zip (by omega)]
    rfl
  have ko : KeyedOut false ((xs.zip ks).map fun p => tupD p.2) vs out := by
    rw [em]
    exact ⟨κ, keys, alike_tups ks, e, hk⟩
  have := keyedOut_each (R := fun v (b : V × List Int) => RelV b.1 v) (fun p : V × List Int => tupD p.2) ko (vals_each rv hl)
  rw [dataLe_tups fun p : V × List Int => p.2] at this
  exact each_vals this
theorem sortBy_length (xs : List V) (ks : List (List Int)) (h : ks.length = xs.length) : (sortBy xs ks).length = xs.length := by
  unfold sortBy
  rw [List.length_map, List.length_mergeSort, List.length_zip]
  omega
/-- sorted(xs, key=f): ks are the keys -/
def rSortKey (K : PySem.W.Frag) (f : Addr) (sp : Sp) : List V → List V → Hp → VK → Prop := fun vs zs H Q => ∃ (l : Addr) (xs : List V) (ks : List (List Int)), vs = [.ref l] ∧ zs = [.ref f] ∧ SqL K H l xs ∧ ks.length = xs.length ∧ (∀ k ∈ ks, k ≠ []) ∧
  (∀ (i : Nat) (x : V) (k : List Int) (H1 : Hp), xs[i]? = some x → ks[i]? = some k → Same H H1 → sp [x] H1 (fun v H2 => Same H1 H2 ∧ ∃ q, v = .ref q ∧ H2 q = some (.tup (k.map V.int))) E0) ∧
  ∀ (p : Addr) (H1 : Hp), H1 p = none → Same H H1 → Q (.ref p) (upd H1 p (.lst (sortBy xs ks)))
/-- the loop over the keys: a and kS are ours -/
def KeyLoop (X : Cx) (pins : List (Addr × Obj)) (σ : L2.St) (H : Hp) (a kS : Addr) (oa : Obj) (ks : List (List Int)) (j : Nat) (s : Shared) : Prop :=
  ∃ (Hj : Hp) (kA : Array Value) (e : Nat), Inv X ((kS, seqObj "list" kA e) :: (a, oa) :: pins) σ Hj s ∧ Same H Hj ∧ EachIs (KeyV Hj) kA.toList (ks.take j)
/-- one of ours written, and pinned again -/
theorem repin {kS : Addr} {o1 o2 : Obj} {pins : List (Addr × Obj)} {h' : Heap} {t' : Nat} (I : Inv X ((kS, o1) :: pins) σ H s) (ok : Ours X pins kS) (k : ∀ b o, b ≠ kS → s.heap.get? b = some o → h'.get? b = some o) (e : h'.get? kS = some o2) (hd : ∀ v, o2.data ≠ .cell v) :
    Inv X ((kS, o2) :: pins) σ H { s with heap := h', toks := t' } := by
  obtain ⟨p1, p2, p3, p4, _⟩ := I.pin (kS, o1) (List.mem_append_right _ (.head _))
  have I1 : Inv X pins σ H s := I.pins_of fun p hp => I.pin p (List.mem_append_right _ (.tail _ hp))
  have I2 : Inv X pins σ H { s with heap := h', toks := t' } := I1.turned k p2 p3 (.inr ok.new) ok.cel ok.pin
  refine I2.pins_of fun p hp => ?_
  rcases List.mem_cons.mp hp with rfl | hp
  · exact ⟨e, p2, p3, p4, hd⟩
  · exact I2.pin p (List.mem_append_right _ hp)
theorem each_take {α β : Type} {R : α → β → Prop} {as : List α} {bs : List β} {j : Nat} {x : α} {y : β} (h : EachIs R as (bs.take j)) (e : bs[j]? = some y) (r : R x y) : EachIs R (as ++ [x]) (bs.take (j + 1)) := by
  rw [List.take_add_one, e]
  exact each_snoc r h
theorem each_map {α β γ : Type} {R : α → γ → Prop} {g : β → γ} : ∀ {as : List α} {bs : List β}, EachIs (fun a b => R a (g b)) as bs → EachIs R as (bs.map g)
  | _, _, .nil => .nil
  | _, _, .cons h t => .cons h (each_map t)
theorem key_turn {A : Around} {a kS : Addr} {oa : Obj} {H0 : Hp} {ks : List (List Int)} {j : Nat} {u : Value} {x : V} {kk : List Int} (sb : Sub X k A) (F : FnOk X.prog X.w X.K X.mg X.base CX0 k f fd ps sp) (hb : Binds X.K fd ps []) (ok : Ours X ((a, oa) :: pins) kS)
    (hL : KeyLoop X pins σ H0 a kS oa ks j s) (ru : RelV x u) (hkj : ks[j]? = some kk) (hz : ks.length ≤ sizeLine) (hsp : ∀ H1, Same H0 H1 → sp [x] H1 (fun v H2 => Same H1 H2 ∧ ∃ q, v = .ref q ∧ H2 q = some (.tup (kk.map V.int))) E0)
    {Q : Unit → Shared → Prop} {E' : Value → Shared → Prop} (done : ∀ s', KeyLoop X pins σ H0 a kS oa ks (j + 1) s' → Q () s') :
    wpAny (model X.prog X.w) A (call (.ref f) [u]) (fun v s' => wpAny (model X.prog X.w) A (Builtin.List.listUpdate (.ref kS) (·.push v)) Q E' s') (fun _ _ => False) s := by
  obtain ⟨Hj, kA, e, I, sm, hk⟩ := hL
  refine wpAny_mono (run_fnR (vs := [x]) sb F hb I (.cons ru .nil) (hsp Hj sm)) (fun v s2 got => ?_) fun _ _ c => c
  obtain ⟨w, H2, I2, rw2, sm2, q, rfl, hq⟩ := got
  obtain rfl : v = Value.ref q := rw2
  have nk := (I2.pin (kS, _) (List.mem_append_right _ (.head _))).1
  have hsz : kA.size ≤ sizeLine := by
    have h1 := hk.length
    rw [Array.length_toList, List.length_take] at h1
    omega
  have sb' := Heap.SameBut.update s2.heap kS (Obj.mapSeq (·.push (Value.ref q)))
  refine listUpdate_at nk rfl (done _ ⟨H2, kA.push (.ref q), _, repin (t' := s2.toks) I2 ok (fun b o hb eb => (sb'.2 b hb).trans eb) (get?_update_seq nk (·.push (Value.ref q))) (fun v z => by cases z), sm.trans sm2, ?_⟩) hsz (by rw [Array.size_push]; omega)
  rw [Array.toList_push]
  exact each_take (hk.mono fun v k h => h.same sm2) hkj ⟨q, rfl, hq⟩
theorem rest_run {A : Around} {a kS : Addr} {e1 : Nat} {H0 : Hp} {xs : List V} {ks : List (List Int)} {vs : List Value} {Q : VK} {E' : Value → Shared → Prop} (sb : Sub X k A) (F : FnOk X.prog X.w X.K X.mg X.base CX0 k f fd ps sp) (hb : Binds X.K fd ps [])
    (oa : Ours X pins a) (ok : Ours X ((a, seqObj "list" #[] e1) :: pins) kS) (rv : Vals xs vs) (hl : ks.length = xs.length) (hne : ∀ k ∈ ks, k ≠ []) (hz : xs.length ≤ sizeLine) (hu : A.units + 64 < cLine)
    (hsp : ∀ (i : Nat) (x : V) (k : List Int) (H1 : Hp), xs[i]? = some x → ks[i]? = some k → Same H0 H1 → sp [x] H1 (fun v H2 => Same H1 H2 ∧ ∃ q, v = .ref q ∧ H2 q = some (.tup (k.map V.int))) E0)
    (h0 : KeyLoop X pins σ H0 a kS (seqObj "list" #[] e1) ks 0 s) (q : ∀ H1, H1 a = none → Same H0 H1 → Q (.ref a) (upd H1 a (.lst (sortBy xs ks)))) :
    wpAny (model X.prog X.w) A (ksk_rest a (.ref f) false vs.toArray e1 (.ref kS)) (fun r s' => r = .done (.ret .none) ∧ EP X pins σ Q (.ref a) s') E' s := by
  have hlv := rv.length
  unfold ksk_rest
  refine wpAny_bind (wpAny_rule ?_)
  rw [← Array.forIn_toList]
  refine wpAny_bind (ksk_fold (fun j s' => KeyLoop X pins σ H0 a kS (seqObj "list" #[] e1) ks j s') vs 0 s h0 (fun j u s' hu' hL => ?_) fun s' hL => ?_)
  · rw [Nat.zero_add] at hL ⊢
    have hj : j < xs.length := by
      have := (List.getElem?_eq_some_iff.mp hu').1
      omega
    have hx : xs[j]? = some xs[j] := List.getElem?_eq_getElem hj
    obtain ⟨u', e', ru⟩ := rv.get hx
    rw [hu'] at e'
    obtain rfl : u = u' := Option.some.inj e'
    generalize xs[j] = x at hx ru
    obtain ⟨kk, hkk⟩ : ∃ kk, ks[j]? = some kk := ⟨_, List.getElem?_eq_getElem (by omega)⟩
    refine wpAny_bind (wpAny_attempt (wpAny_mono (key_turn sb F hb ok hL ru hkk (by omega) (fun H1 sm => hsp j x kk H1 hx hkk sm) fun s3 hL3 => wpAny_pure ⟨rfl, hL3⟩) (fun v s2 got => wpAny_bind got) fun _ _ c => c.elim))
  · rw [Nat.zero_add] at hL
    obtain ⟨Hn, kA, e, I, sm, hk⟩ := hL
    obtain ⟨nk, fk, _⟩ := I.pin (kS, _) (List.mem_append_right _ (.head _))
    obtain ⟨na, fa, _⟩ := I.pin (a, _) (List.mem_append_right _ (.tail _ (.head _)))
    rw [List.take_of_length_le (by omega)] at hk
    have J : Inv X pins σ Hn s' := I.pins_of fun p hp => I.pin p (List.mem_append_right _ (.tail _ (.tail _ hp)))
    have hkr : EachIs (fun v d => ∃ as, Reads s'.heap v d as) kA.toList (ks.map tupD) := each_map (hk.mono fun v k h => h.reads J)
    have hks : kA.size = vs.length := by
      have := hk.length
      rw [Array.length_toList] at this
      omega
    have ne : kS ≠ a := fun z => ok.pin (a, seqObj "list" #[] e1) (List.mem_append_right _ (.head _)) z.symm
    refine wpAny_bind (listItems_at nk rfl ?_)
    have hf : ∀ b, b ≠ kS → (s'.heap.update kS fun o => { o with data := .freed }).get? b = s'.heap.get? b := fun b hb => Heap.get?_update_ne _ _ _ _ hb
    refine keyH_end (κ := dataKind s'.heap (ks.map tupD)) (h₁ := s'.heap.update kS fun o => { o with data := .freed }) (fun b o _ eb => ?_) freed_none nk na ne (SortsAt.data hkr (alike_tups ks) (sortable_tups hne) fun d hd => ?_) hks (by omega) fun h' tk c kp hc => ⟨rfl, ?_⟩
    · by_cases hb : b = kS
      · rw [hb, freed_none] at eb
        cases eb
      · rw [← hf b hb]
        exact eb
    · obtain ⟨k, _, rfl⟩ := List.mem_map.mp hd
      have := depth_tup k
      omega
    · have ho := sort_out xs ks rv hl hkr rfl
      refine ⟨.ref a, upd Hn a (.lst (sortBy xs ks)), inv_sorted J oa ⟨ok.loc, ok.new, ok.cel, fun p hp => ok.pin p ?_, ok.fs⟩ fa fk (fun b o h1 h2 eb => kp b o h1 (by rw [hf b h2]; exact eb)) ⟨by rw [sortBy_length xs ks hl]; exact hz, _, c, ho, hc⟩, rfl, q Hn fa sm⟩
      rcases List.mem_append.mp hp with h | h
      · exact List.mem_append_left _ h
      · exact List.mem_append_right _ (.tail _ h)
/-- THE RULE: sorted(xs, key=f) -/
theorem cr_sortedF (F : FnOk X.prog X.w X.K X.mg X.base CX0 k f fd ps sp) (hr : Room (k + 2) X.A) (hb : Binds X.K fd ps []) : CallRK X (.builtin "sorted") [Str.ofString "key"] (rSortKey X.K f sp) := by
  intro pins s σ H vs zs us ws Q I r rz h
  obtain ⟨l, xs, ks, rfl, rfl, hs, hl, hne, hsp, q⟩ := h
  obtain rfl := Vals.ref1 r
  obtain ⟨w1, rfl, rw1⟩ := vals1 rz
  obtain rfl : w1 = Value.ref f := rw1
  obtain ⟨its, rv, pl, hz⟩ := I.list hs
  have hlv := rv.length
  have sb : Sub X k X.A.in1.in1 := Sub.in1 (Sub.in1 (⟨hr, rfl⟩ : Sub X (k + 2) X.A))
  have hu : X.A.in1.in1.units + 64 < cLine := sb.room.units
  refine sorted_of_sort (vs := its) pl.isList (by omega) (ksk_s1 _ _) (fun _ => ksk_l1 _ _) fun E' => ?_
  show wpAny _ _ (Builtin.«list.sort» ⟨[.ref _], [(Str.ofString "key", .ref f)]⟩) _ _ _
  rw [ksk_t1]
  generalize ha : s.heap.objs.size + 1 = a
  have hao : (copyHeap s.heap its).get? a = some (seqObj "list" its.toArray 0) := by rw [← ha]; exact copyHeap_at _ _
  have hsz : (copyHeap s.heap its).objs.size = a + 1 := by
    unfold copyHeap
    rw [size_push', Heap.size_update, size_push', ha]
  obtain ⟨e1, h1⟩ : ∃ e1, ((copyHeap s.heap its).update a (Obj.mapSeq fun _ => (#[] : Array Value))).get? a = some (seqObj "list" #[] e1) := ⟨_, get?_update_seq hao fun _ => #[]⟩
  have hS : (((copyHeap s.heap its).update a (Obj.mapSeq fun _ => (#[] : Array Value))).push (seqObj "tuple" its.toArray 0)).objs.size = a + 2 := by rw [size_push', Heap.size_update, hsz]
  unfold ksk_tree
  refine wpAny_bind (listItems_at hao rfl (wpAny_bind (listUpdate_at hao rfl (wpAny_bind (seqEpoch_at h1 rfl (wpAny_bind (wpAny_newTuple (wpAny_bind (wpAny_newList (wpAny_holding ?_) (Nat.zero_le _))) (by show its.length ≤ sizeLine; omega))))) (by rw [List.size_toArray]; omega) (Nat.zero_le _))))
  have old : ∀ b o, s.heap.get? b = some o → ((((copyHeap s.heap its).update a (Obj.mapSeq fun _ => (#[] : Array Value))).push (seqObj "tuple" its.toArray 0)).push (seqObj "list" #[] 0)).get? b = some o := fun b o e => by
    have hb : b ≠ a := by
      have := Heap.lt_size e
      rw [← ha]
      exact Nat.ne_of_lt (Nat.lt_succ_of_lt this)
    refine Heap.get?_push_of_some _ (Heap.get?_push_of_some _ ?_)
    rw [Heap.get?_update_ne _ _ _ _ hb]
    exact copyHeap_old e
  have hkS : ((((copyHeap s.heap its).update a (Obj.mapSeq fun _ => (#[] : Array Value))).push (seqObj "tuple" its.toArray 0)).push (seqObj "list" #[] 0)).get? (a + 2) = some (seqObj "list" #[] 0) := by
    rw [← hS]
    exact Heap.get?_push_size _ rfl
  have h1' : ((((copyHeap s.heap its).update a (Obj.mapSeq fun _ => (#[] : Array Value))).push (seqObj "tuple" its.toArray 0)).push (seqObj "list" #[] 0)).get? a = some (seqObj "list" #[] e1) := Heap.get?_push_of_some _ (Heap.get?_push_of_some _ h1)
  rw [show (((copyHeap s.heap its).update a (Obj.mapSeq fun _ => (#[] : Array Value))).push { cls := .type "tuple", data := .seq its.toArray }).objs.size = a + 2 from hS]
  have oa : Ours X pins a := ours_of I (by rw [← ha]; exact Nat.le_succ _)
  have oS : Ours X pins (a + 2) := ours_of I (by rw [← ha]; exact Nat.le_add_right _ 3)
  have na : H a = none := I.hok.fresh (by rw [← ha]; exact Nat.le_succ _)
  have nS : H (a + 2) = none := I.hok.fresh (by rw [← ha]; exact Nat.le_add_right _ 3)
  have ok : Ours X ((a, seqObj "list" #[] e1) :: pins) (a + 2) := ⟨oS.loc, oS.new, oS.cel, fun p hp => by
    rcases List.mem_append.mp hp with h | h
    · exact oS.pin p (List.mem_append_left _ h)
    · rcases List.mem_cons.mp h with rfl | h
      · show a ≠ a + 2
        exact Nat.ne_of_lt (Nat.lt_add_of_pos_right (by decide))
      · exact oS.pin p (List.mem_append_right _ h), oS.fs⟩
  have J := (I.kept (t' := s.toks) old).pins_of (pins' := (a + 2, seqObj "list" #[] 0) :: (a, seqObj "list" #[] e1) :: pins) fun p hp => by
    rcases List.mem_cons.mp hp with rfl | hp
    · exact ⟨hkS, nS, oS.loc, oS.fs, fun v z => by cases z⟩
    · rcases List.mem_cons.mp hp with rfl | hp
      · exact ⟨h1', na, oa.loc, oa.fs, fun v z => by cases z⟩
      · obtain ⟨p1, p2⟩ := I.pin p (List.mem_append_right _ hp)
        exact ⟨old _ _ p1, p2⟩
  exact rest_run (k := k) sb F hb oa ok rv hl hne hz hu hsp ⟨H, #[], 0, J, fun _ _ z => z, .nil⟩ fun H1 n1 sm => q a H1 n1 sm
end
end SpX

set_option Elab.async false
set_option linter.all false
set_option maxRecDepth 100000
set_option maxHeartbeats 2000000
/-! an instance in a test and in an f-string; min of a tuple; the index of a text in a tuple. -/
namespace SpX
open PySem PySem.Spec PyProof.Rows PySem.W L2
section
variable {X : Cx} {CX : CXT} {k : Nat} {f C : Addr} {fd : FuncData} {ps : List Str} {sp : Sp} {E : XK}
/-- the truth of an instance by its own __bool__ -/
def rTruO (C : Addr) (sp : Sp) (E : XK) : V → Hp → (Bool → Hp → Prop) → Prop := fun x H Q => ∃ a dx fs, x = .ref a ∧ H a = some (.ins C dx fs) ∧ sp [.ref a] H (fun v H' => ∃ b, v = .bl b ∧ Q b H') E
theorem tru_own (hs : PySem.W.findIn X.K (.ref C) "__bool__" = some (some (.ref f))) (hf : PySem.W.isFn X.K (.ref f) = true) (F : FnOk X.prog X.w X.K X.mg X.base CX k f fd ps sp) (hr : Room k X.A) (hb : Binds X.K fd ps []) (hx : Passes CX X E) : TruR X (rTruO C sp E) := by
  intro pins s σ H x u Q I rx h
  obtain ⟨a, dx, fs, rfl, ha, hsp⟩ := h
  cases rx
  exact truthy_own ⟨hr, rfl⟩ hs hf F hb hx I ha hsp
/-- as a test -/
def tTruO (C : Addr) (sp : Sp) (E : XK) (ta : TE) : TT := fun σ H Q => ta σ H fun x H' => rTruO C sp E x H' Q
theorem pt_own {e : Expr} {te : TE} (he : PE X e te) (hr : TruR X (rTruO C sp E)) (hp : ∀ whole, isTrue e X.env whole = (do let v ← whole; standAt e.pos; holding [v] (truthy v)) := by intro _; rfl) : PT X e (tTruO C sp E te) := pt_truthR he hr hp
/-- {x} in an f-string, x an instance with an own __str__ -/
def tFmtO (C : Addr) (sp : Sp) (E : XK) (te : TE) : TE := fun σ H Q => te σ H fun x H1 => ∃ a dx fs, x = .ref a ∧ H1 a = some (.ins C dx fs) ∧ sp [.ref a] H1 (fun v H' => ∃ y : Str, v = .str y ∧ Q v H') E
theorem pe_fmtO {e : Expr} {te : TE} {pos : Pos} (hm : PySem.W.mroIn X.K C (.type "object") = some true) (hfm : PySem.W.findIn X.K (.ref C) "__format__" = some (some (.builtin "object.__format__"))) (hs : PySem.W.findIn X.K (.ref C) "__str__" = some (some (.ref f)))
    (hf : PySem.W.isFn X.K (.ref f) = true) (F : FnOk X.prog X.w X.K X.mg X.base CX k f fd ps sp) (hr : Room (k + 2) X.A) (hb : Binds X.K fd ps []) (hx : Passes CX X E) (he : PE X e te) : PE X (.FormattedValue e (-1) none pos) (tFmtO C sp E te) := by
  refine ⟨fun pins s σ H Q I h => wpAny_FormattedValue_plain (thn (he.run pins s σ H _ I h) fun v s1 hv => ?_)⟩
  obtain ⟨x, H1, I1, r1, a, dx, fs, rfl, ha, hsp⟩ := hv
  cases r1
  obtain ⟨mA, J, _⟩ := ins_get I1.hok ha
  obtain ⟨od, J, _⟩ := J.look
  have sb : Sub X (k + 1) X.A.in1 := Sub.in1 (⟨hr, rfl⟩ : Sub X (k + 2) X.A)
  refine PySem.W.kfo_fieldS sb.room.units0 I1.kIn J hfm hm hs hf ?_
  refine thn (run_fnA (us := [.ref a]) (vs := [.ref a]) (⟨sb.room.mono (Nat.le_succ k), sb.fr⟩ : Sub X k X.A.in1) F hb hx (I1.tok _) (.cons rfl .nil) hsp) fun u s2 q => ?_
  obtain ⟨v, H', I', rv, y, rfl, q⟩ := q
  obtain ⟨t, rfl⟩ := rv
  exact ⟨.str y, H', I', ⟨t, rfl⟩, q⟩
/-- min of a tuple of ints -/
def rMinT : List V → Hp → VK → Prop := fun vs H Q => ∃ (a : Addr) (n : Int) (r : List Int), vs = [.ref a] ∧ H a = some (.tup ((n :: r).map V.int)) ∧ Q (.int (r.foldl min n)) H
theorem reads_ints {h : Heap} : ∀ {ns : List Int} {us : List Value}, Vals (ns.map V.int) us → ReadsAll h us (ns.map PyData.int) []
  | [], _, r => by cases r; exact .nil
  | n :: ns, _, r => by
    cases r with
    | cons e t =>
      obtain ⟨tk, rfl⟩ := e
      exact .cons (.int _ _) (reads_ints t)
theorem call_minT (hc : X.calm = true) (hu : X.A.units + 2 < cLine) : CallR X (.builtin "min") rMinT := by
  intro pins s σ H vs us Q I r h
  obtain ⟨a, n, rs, rfl, ha, q⟩ := h
  obtain ⟨its, rv, hl, _⟩ := I.tuple (SqT.at (K := X.K) ha)
  rw [Vals.ref1 r]
  have al : AlikeAll ((n :: rs).map PyData.int) := by
    refine ⟨fun x hx y hy => ?_, fun x hx => ?_⟩
    · obtain ⟨i, _, rfl⟩ := List.mem_map.mp hx
      obtain ⟨j, _, rfl⟩ := List.mem_map.mp hy
      rfl
    · obtain ⟨i, _, rfl⟩ := List.mem_map.mp hx
      exact fun e => by cases e
  refine min_tuple_data (I.ok.hd hc) hl (by simpa using reads_ints rv) al ?_ fun i v h' tk bs hv rd hk => ?_
  · have : PyData.depthAll ((n :: rs).map PyData.int) = 0 := depth_ints _
    show X.A.units + 1 + PyData.depthAll ((n :: rs).map PyData.int) < cLine
    rw [this]
    omega
  · rw [minD_ints] at rd
    cases rd
    exact ⟨.int _, H, I.kept hk, ⟨_, rfl⟩, q⟩
/-- the index of a text in a tuple of texts, there -/
def rTupIx (K : PySem.W.Frag) : V → List V → Hp → VK → Prop := fun x xs H Q => ∃ (p : Addr) (ys : List Str) (z : Str) (j : Nat), x = .ref p ∧ xs = [.str z] ∧ SqT K H p (ys.map V.str) ∧ ys[j]? = some z ∧ (∀ m, m < j → ys[m]? ≠ some z) ∧ Q (.int (j : Nat)) H
theorem mt_tupIx : MtR X "tuple.index" (rTupIx X.K) := mt_tup_index
/-- not in a tuple of plain things -/
def rNotInT (K : PySem.W.Frag) : R2 := fun x y H Q => ∃ d ds, Dp K H x d ∧ Dp K H y (.tuple ds) ∧ d.plain = true ∧ PyData.plainAll ds = true ∧ d.depth ≤ 60 ∧ Q (.bl (!ds.any fun z => PyData.eqv z d)) H
theorem op_notInT (hu : X.A.units + 64 < cLine) : OpR X (compareOp .NotIn) (rNotInT X.K) := by
  intro pins s σ H x y v u Q I rx ry h
  obtain ⟨d, ds, hd, he, pd, pl, l, q⟩ := h
  obtain ⟨as, r1⟩ := Dp.reads I d x v hd rx
  obtain ⟨bs, r2⟩ := Dp.reads I (.tuple ds) y u he ry
  exact SeqAt.notIn_tuple_data r2 r1 pl pd (by omega) ⟨.bl _, H, I, rfl, q⟩
/-- list(d), d a dict of tuples: the keys -/
def rListDT : List V → Hp → VK → Prop := fun xs H Q => ∃ d kvs, xs = [V.ref d] ∧ Rd H d (.dT kvs) ∧ ∀ p bs, H p = none → IsKeys H kvs bs → Q (.ref p) (upd H p (.lst (bs.map V.ref)))
theorem call_listDT (hc : X.calm = true) : CallR X (.type "list") rListDT := call_list_dT hc
end
theorem _root_.L2.Room.units1 {k : Nat} {A : Around} (r : Room k A) : A.units + 1 < cLine := by have := r.units; omega
theorem _root_.L2.Room.units2 {k : Nat} {A : Around} (r : Room k A) : A.units + 2 < cLine := by have := r.units; omega
end SpX


set_option Elab.async false
set_option linter.all false
set_option maxRecDepth 100000
set_option maxHeartbeats 2000000
/-! k65: the place of a monomial. -/
namespace SpX
open PySem PySem.Spec L2 StX RZ
/-- exponents -/
abbrev ExpAt (H : Hp) (p : Addr) (ns : List Int) : Prop := H p = some (.tup (ns.map V.int))
/-! ### comprehensions whose element changes nothing -/
theorem wipe1 {σ : L2.St} {i : Nat} {x : V} : wipe ((wipe σ [i]).set i (some x)) [i] = wipe σ [i] := by
  show ((σ.set i none).set i (some x)).set i none = σ.set i none
  rw [List.set_set, List.set_set]
theorem lc_pureT {K : PySem.W.Frag} {tv te : TE} {σ : L2.St} {H : Hp} {Q : VK} {p : Addr} {xs : List V} {i : Nat} (f : Nat → V) (hv : ∀ Q : VK, tv σ H Q = Q (.ref p) H) (h : H p = some (.tup xs)) (hl : xs.length < 1000)
    (he : ∀ j x (H' : Hp) (QQ : VK), xs[j]? = some x → Same H H' → QQ (f j) H' → te ((wipe σ [i]).set i (some x)) H' QQ) (k : ∀ D H', Same H H' → H' D = some (.lst ((List.range xs.length).map f)) → Q (.ref D) H') : tLc (iTup K tv) (gName i) tYes te [i] σ H Q := by
  show tv σ H _
  rw [hv]
  refine ⟨p, rfl, ⟨_, SqT.at h⟩, fun D hD => lc_tup (K := K) (a := p) (xs := xs) (fun j H' => Same H H' ∧ H' D = some (.lst ((List.range j).map f))) ⟨Same.new hD, upd_same⟩ (fun j H' _ s => SqT.at (s.1 _ _ h)) (fun j x H' hj s => ?_) fun H' s => k D H' s.1 s.2⟩
  refine ⟨wipe1, ?_⟩
  unfold tYes
  dsimp only
  rw [if_pos rfl]
  refine he j x H' _ hj s.1 ⟨_, s.2, ?_, ?_, ?_⟩
  · have := (List.getElem?_eq_some_iff.mp hj).1
    rw [List.length_map, List.length_range]
    exact Nat.lt_of_lt_of_le (show j < 1000 by omega) (by decide)
  · intro b o e
    rw [upd_ne (ne_of_none e hD)]
    exact s.1 _ _ e
  · rw [upd_same, List.range_succ, List.map_append]
    rfl
theorem range_map {α β : Type} {l : List α} {f : Nat → β} {g : α → β} (h : ∀ j x, l[j]? = some x → f j = g x) : (List.range l.length).map f = l.map g := by
  refine List.ext_getElem? fun j => ?_
  rw [List.getElem?_map, List.getElem?_map]
  by_cases hj : j < l.length
  · rw [List.getElem?_range hj, List.getElem?_eq_getElem hj]
    exact congrArg some (h j _ (List.getElem?_eq_getElem hj))
  · rw [List.getElem?_eq_none (by rw [List.length_range]; omega), List.getElem?_eq_none (by omega)]
    rfl
theorem int_at {ns : List Int} {j : Nat} {x : V} (h : (ns.map V.int)[j]? = some x) : ∃ z, ns[j]? = some z ∧ x = .int z := by
  rw [List.getElem?_map] at h
  cases e : ns[j]? with
  | none => rw [e] at h; cases h
  | some z => rw [e] at h; exact ⟨z, rfl, (Option.some.inj h).symm⟩
/-- in the order's place -/
def plc (ns : List Int) : List Int := ns.sum :: ns.map (fun x => -x)
def spPlace : Sp := fun vs H Q _ => ∃ (p : Addr) (ns : List Int), vs = [.ref p] ∧ ExpAt H p ns ∧ ns.length < 100 ∧ ∀ q H', ExpAt H' q (plc ns) → Same H H' → Q (.ref q) H'
def t_place (P : Program) (K : PySem.W.Frag) (mg : Str → Option Value) (C Z D BN PC VA BP f_place : Addr) (E : XK) : TS :=
    (tRet (tTup (tCons (tCB rSumA (tCons (tVar 0) tNil)) (tStar K (tLc (iTup K (tVar 0)) (gName 1) tYes (tUn (rU fun i => .int (-i)) (tVar 1)) [1]) tNil))))
variable {P0 : Program} {K : PySem.W.Frag} {mg : Str → Option Value} {C Z D BN PC VA BP f_place : Addr}
theorem pure_place (vs : List V) (H : Hp) (Q : VK) (E : XK) (h : spPlace vs H Q E) : t_place P0 K mg C Z D BN PC VA BP f_place E { nx := fun _ H' => Q .non H', rt := Q } (start ["exponents", "exponent"] vs) H := by
  obtain ⟨p, ns, rfl, hp, hl, k⟩ := h
  show t_place P0 K mg C Z D BN PC VA BP f_place E _ [some (.ref p), none] H
  unfold t_place
  simp only [x_seq, x_if, x_test, x_B, x_op, x_un, x_varS, x_var0, x_c, x_I0, x_I, x_U, x_bl, x_ret, x_next, x_eqS, x_neS, x_m0, x_m1, x_isStr, x_SM, x_addT, x_slS, x_lenS, x_strI, x_mulS, x_startT, x_findT, x_preT, x_lstT, x_ascT, x_digT, x_jn, x_js0, x_js1, x_isS, x_fmt, x_fmtS, x_divW, x_truK, x_truS, x_raiseT, x_asg, x_name, x_set0, x_setS, x_drop, x_cb, x_cons, x_nil, x_int1, x_abs1, x_max2, x_gcd, x_gsub, x_sl, x_part, x_nopart, x_int, x_call, x_lst, x_tup, x_not, x_and, x_or, x_andV, x_orV, x_notV, x_ifE, x_eqI, x_neI, x_eqB, x_neB, x_tbm, x_never, x_make, x_meth, x_isII, x_isIC, x_bool1, decide_eq_true_eq, Bool.false_eq_true, if_false, if_true, List.append_nil, List.nil_append, List.cons_append, x_sumT hp]
  refine lc_pureT (fun j => V.int (-(ns.getD j 0))) (fun Q => by simp only [x_seq, x_if, x_test, x_B, x_op, x_un, x_varS, x_var0, x_c, x_I0, x_I, x_U, x_bl, x_ret, x_next, x_eqS, x_neS, x_m0, x_m1, x_isStr, x_SM, x_addT, x_slS, x_lenS, x_strI, x_mulS, x_startT, x_findT, x_preT, x_lstT, x_ascT, x_digT, x_jn, x_js0, x_js1, x_isS, x_fmt, x_fmtS, x_divW, x_truK, x_truS, x_raiseT, x_asg, x_name, x_set0, x_setS, x_drop, x_cb, x_cons, x_nil, x_int1, x_abs1, x_max2, x_gcd, x_gsub, x_sl, x_part, x_nopart, x_int, x_call, x_lst, x_tup, x_not, x_and, x_or, x_andV, x_orV, x_notV, x_ifE, x_eqI, x_neI, x_eqB, x_neB, x_tbm, x_never, x_make, x_meth, x_isII, x_isIC, x_bool1, decide_eq_true_eq, Bool.false_eq_true, if_false, if_true, List.append_nil, List.nil_append, List.cons_append]) hp (by rw [List.length_map]; omega) (fun j x H' QQ hj s kk => ?_) fun D2 H' s hD => ?_
  · obtain ⟨z, hz, rfl⟩ := int_at hj
    show tUn _ (tVar 1) [some (.ref p), some (.int z)] H' QQ
    simp only [x_seq, x_if, x_test, x_B, x_op, x_un, x_varS, x_var0, x_c, x_I0, x_I, x_U, x_bl, x_ret, x_next, x_eqS, x_neS, x_m0, x_m1, x_isStr, x_SM, x_addT, x_slS, x_lenS, x_strI, x_mulS, x_startT, x_findT, x_preT, x_lstT, x_ascT, x_digT, x_jn, x_js0, x_js1, x_isS, x_fmt, x_fmtS, x_divW, x_truK, x_truS, x_raiseT, x_asg, x_name, x_set0, x_setS, x_drop, x_cb, x_cons, x_nil, x_int1, x_abs1, x_max2, x_gcd, x_gsub, x_sl, x_part, x_nopart, x_int, x_call, x_lst, x_tup, x_not, x_and, x_or, x_andV, x_orV, x_notV, x_ifE, x_eqI, x_neI, x_eqB, x_neB, x_tbm, x_never, x_make, x_meth, x_isII, x_isIC, x_bool1, decide_eq_true_eq, Bool.false_eq_true, if_false, if_true, List.append_nil, List.nil_append, List.cons_append]
    have e : ns.getD j 0 = z := by rw [List.getD_eq_getElem?_getD, hz]; rfl
    rw [e] at kk
    exact kk
  · have e : (List.range (ns.map V.int).length).map (fun j => V.int (-(ns.getD j 0))) = (ns.map (fun x => -x)).map V.int := by
      rw [List.length_map, List.map_map]
      refine range_map fun j x hx => ?_
      rw [List.getD_eq_getElem?_getD, hx]
      rfl
    rw [e] at hD
    refine ⟨D2, _, rfl, .inr (SqL.at hD), ?_, fun q hq => ?_⟩
    · show (V.int ns.sum :: ((ns.map (fun x => -x)).map V.int ++ [])).length ≤ sizeLine
      rw [List.append_nil, List.length_cons, List.length_map, List.length_map]
      exact sl5 (by omega)
    · refine k q _ ?_ (Same.new' s hq)
      rw [ExpAt, upd_same, List.append_nil]
      rfl
end SpX

set_option Elab.async false
set_option linter.all false
set_option maxRecDepth 100000
set_option maxHeartbeats 2000000
/-! k65: the checks, total of one number, the polynomial of one term. -/
namespace SpX
open PySem PySem.Spec NumText L2 StX RZ
def spChk3 : Sp := fun vs H Q _ => ∃ n : Int, vs = [.int n] ∧ 1 ≤ n ∧ n ≤ 3 ∧ Q .non H
def spChke3 : Sp := fun vs H Q _ => ∃ (e : Addr) (es : List Int), vs = [.ref e, .int es.length] ∧ ExpAt H e es ∧ Q .non H
/-- the exponents of a monomial of degree at most 16 -/
structure Exps (es : List Int) : Prop where
  one : 1 ≤ es.length
  three : es.length ≤ 3
  pos : ∀ x ∈ es, 0 ≤ x
  sum : es.sum ≤ 16
def spChkx : Sp := fun vs H Q _ => ∃ (e : Addr) (es : List Int), vs = [.ref e, .int es.length] ∧ ExpAt H e es ∧ Exps es ∧ Q .non H
def spTotal1 (C : Addr) : Sp := fun vs H Q _ => ∃ (l r : Addr), vs = [.ref l] ∧ H l = some (.lst [.ref r]) ∧ ∀ H', Same H H' → Q (.ref r) H'
def t_chk3 (P : Program) (K : PySem.W.Frag) (mg : Str → Option Value) (C Z D BN PC VA BP f_place : Addr) (E : XK) : TS :=
    (tIfS (tOr (tTest (tOp (rI0 fun i j => .bl (decide (i < j))) (tVar 0) (tC (.int 1)))) (tTest (tOp (rI0 fun i j => .bl (decide (j < i))) (tVar 0) (tC (.int 3))))) tNever tNext)
def t_chke3 (P : Program) (K : PySem.W.Frag) (mg : Str → Option Value) (C Z D BN PC VA BP f_place : Addr) (E : XK) : TS :=
    (tIfS (tTest (tOp rNe (tCB rLenA (tCons (tVar 0) tNil)) (tVar 1))) tNever tNext)
def t_chkx (P : Program) (K : PySem.W.Frag) (mg : Str → Option Value) (C Z D BN PC VA BP f_place : Addr) (E : XK) : TS :=
    (tSeq (tDrop (tCall spChke3 [] E0 (tCons (tVar 0) (tCons (tVar 1) tNil))))
    (tSeq (tIfS (tTest (tOp (rI0 fun i j => .bl (decide (i < j))) (tCB rMinT (tCons (tVar 0) tNil)) (tC (.int 0)))) tNever tNext)
    (tIfS (tTest (tOp (rI0 fun i j => .bl (decide (j < i))) (tCB rSumA (tCons (tVar 0) tNil)) (tC (.int 16)))) tNever tNext)))
def t_total (P : Program) (K : PySem.W.Frag) (mg : Str → Option Value) (C Z D BN PC VA BP f_place : Addr) (E : XK) : TS :=
    (tSeq (tAsg (tCB rListA (tCons (tVar 0) tNil)) (gName 1))
    (tSeq (tWhile (tTest (tOp (rI0 fun i j => .bl (decide (j < i))) (tCB rLenA (tCons (tVar 1) tNil)) (tC (.int 1)))) ((tSeq tNever
    tNever)))
    (tRet (tIf (tTruK K (tVar 1)) (tOp rIx1 (tVar 1) (tC (.int 0))) (tMake C (spInit C Z) [.int 1] E0 (tCons (tC (.int 0)) tNil))))))
variable {P0 : Program} {K : PySem.W.Frag} {mg : Str → Option Value} {C Z D BN PC VA BP f_place : Addr}
theorem pure_chk3 (vs : List V) (H : Hp) (Q : VK) (E : XK) (h : spChk3 vs H Q E) : t_chk3 P0 K mg C Z D BN PC VA BP f_place E { nx := fun _ H' => Q .non H', rt := Q } (start ["dimension"] vs) H := by
  obtain ⟨n, rfl, h1, h3, k⟩ := h
  show t_chk3 P0 K mg C Z D BN PC VA BP f_place E _ [some (.int n)] H
  unfold t_chk3
  simp only [x_seq, x_if, x_test, x_B, x_op, x_un, x_varS, x_var0, x_c, x_I0, x_I, x_U, x_bl, x_ret, x_next, x_eqS, x_neS, x_m0, x_m1, x_isStr, x_SM, x_addT, x_slS, x_lenS, x_strI, x_mulS, x_startT, x_findT, x_preT, x_lstT, x_ascT, x_digT, x_jn, x_js0, x_js1, x_isS, x_fmt, x_fmtS, x_divW, x_truK, x_truS, x_raiseT, x_asg, x_name, x_set0, x_setS, x_drop, x_cb, x_cons, x_nil, x_int1, x_abs1, x_max2, x_gcd, x_gsub, x_sl, x_part, x_nopart, x_int, x_call, x_lst, x_tup, x_not, x_and, x_or, x_andV, x_orV, x_notV, x_ifE, x_eqI, x_neI, x_eqB, x_neB, x_tbm, x_never, x_make, x_meth, x_isII, x_isIC, x_bool1, decide_eq_true_eq, Bool.false_eq_true, if_false, if_true, List.append_nil, List.nil_append, List.cons_append]
  rw [if_neg (by omega), if_neg (by omega)]
  exact k
theorem pure_chke3 (vs : List V) (H : Hp) (Q : VK) (E : XK) (h : spChke3 vs H Q E) : t_chke3 P0 K mg C Z D BN PC VA BP f_place E { nx := fun _ H' => Q .non H', rt := Q } (start ["entries", "dimension"] vs) H := by
  obtain ⟨e, es, rfl, he, k⟩ := h
  show t_chke3 P0 K mg C Z D BN PC VA BP f_place E _ [some (.ref e), some (.int es.length)] H
  unfold t_chke3
  simp only [x_seq, x_if, x_test, x_B, x_op, x_un, x_varS, x_var0, x_c, x_I0, x_I, x_U, x_bl, x_ret, x_next, x_eqS, x_neS, x_m0, x_m1, x_isStr, x_SM, x_addT, x_slS, x_lenS, x_strI, x_mulS, x_startT, x_findT, x_preT, x_lstT, x_ascT, x_digT, x_jn, x_js0, x_js1, x_isS, x_fmt, x_fmtS, x_divW, x_truK, x_truS, x_raiseT, x_asg, x_name, x_set0, x_setS, x_drop, x_cb, x_cons, x_nil, x_int1, x_abs1, x_max2, x_gcd, x_gsub, x_sl, x_part, x_nopart, x_int, x_call, x_lst, x_tup, x_not, x_and, x_or, x_andV, x_orV, x_notV, x_ifE, x_eqI, x_neI, x_eqB, x_neB, x_tbm, x_never, x_make, x_meth, x_isII, x_isIC, x_bool1, decide_eq_true_eq, Bool.false_eq_true, if_false, if_true, List.append_nil, List.nil_append, List.cons_append, x_lenT he, List.length_map, decide_true, Bool.not_true, Bool.false_eq_true, if_false]
  exact k
theorem min_le : ∀ (r : List Int) (n : Int), (∀ x ∈ n :: r, 0 ≤ x) → 0 ≤ r.foldl min n
  | [], n, h => h n (by simp)
  | y :: r, n, h => min_le r (min n y) fun x hx => by
    rcases List.mem_cons.mp hx with rfl | hx
    · have := h n (by simp)
      have := h y (by simp)
      omega
    · exact h x (by simp [hx])
theorem x_minT {e : Addr} {n : Int} {r : List Int} {H : Hp} {Q : VK} (h : H e = some (.tup ((n :: r).map V.int))) (k : Q (.int (r.foldl min n)) H) : rMinT [.ref e] H Q := ⟨e, n, r, rfl, h, k⟩
theorem pure_chkx (vs : List V) (H : Hp) (Q : VK) (E : XK) (h : spChkx vs H Q E) : t_chkx P0 K mg C Z D BN PC VA BP f_place E { nx := fun _ H' => Q .non H', rt := Q } (start ["exponents", "dimension"] vs) H := by
  obtain ⟨e, es, rfl, he, x, k⟩ := h
  show t_chkx P0 K mg C Z D BN PC VA BP f_place E _ [some (.ref e), some (.int es.length)] H
  unfold t_chkx
  rw [x_seq]
  simp only [x_if, x_test, x_B, x_op, x_un, x_varS, x_var0, x_c, x_I0, x_I, x_U, x_bl, x_ret, x_next, x_eqS, x_neS, x_m0, x_m1, x_isStr, x_SM, x_addT, x_slS, x_lenS, x_strI, x_mulS, x_startT, x_findT, x_preT, x_lstT, x_ascT, x_digT, x_jn, x_js0, x_js1, x_isS, x_fmt, x_fmtS, x_divW, x_truK, x_truS, x_raiseT, x_asg, x_name, x_set0, x_setS, x_drop, x_cb, x_cons, x_nil, x_int1, x_abs1, x_max2, x_gcd, x_gsub, x_sl, x_part, x_nopart, x_int, x_call, x_lst, x_tup, x_not, x_and, x_or, x_andV, x_orV, x_notV, x_ifE, x_eqI, x_neI, x_eqB, x_neB, x_tbm, x_never, x_make, x_meth, x_isII, x_isIC, x_bool1, decide_eq_true_eq, Bool.false_eq_true, if_false, if_true, List.append_nil, List.nil_append, List.cons_append]
  refine ⟨e, es, rfl, he, ?_⟩
  dsimp only
  rw [x_seq]
  simp only [x_if, x_test, x_B, x_op, x_un, x_varS, x_var0, x_c, x_I0, x_I, x_U, x_bl, x_ret, x_next, x_eqS, x_neS, x_m0, x_m1, x_isStr, x_SM, x_addT, x_slS, x_lenS, x_strI, x_mulS, x_startT, x_findT, x_preT, x_lstT, x_ascT, x_digT, x_jn, x_js0, x_js1, x_isS, x_fmt, x_fmtS, x_divW, x_truK, x_truS, x_raiseT, x_asg, x_name, x_set0, x_setS, x_drop, x_cb, x_cons, x_nil, x_int1, x_abs1, x_max2, x_gcd, x_gsub, x_sl, x_part, x_nopart, x_int, x_call, x_lst, x_tup, x_not, x_and, x_or, x_andV, x_orV, x_notV, x_ifE, x_eqI, x_neI, x_eqB, x_neB, x_tbm, x_never, x_make, x_meth, x_isII, x_isIC, x_bool1, decide_eq_true_eq, Bool.false_eq_true, if_false, if_true, List.append_nil, List.nil_append, List.cons_append]
  obtain ⟨n, r, rfl⟩ : ∃ n r, es = n :: r := by
    cases es with
    | nil => exact absurd x.one (by simp)
    | cons n r => exact ⟨n, r, rfl⟩
  refine x_minT he ?_
  have := min_le r n x.pos
  simp only [x_if, x_test, x_B, x_op, x_un, x_varS, x_var0, x_c, x_I0, x_I, x_U, x_bl, x_ret, x_next, x_eqS, x_neS, x_m0, x_m1, x_isStr, x_SM, x_addT, x_slS, x_lenS, x_strI, x_mulS, x_startT, x_findT, x_preT, x_lstT, x_ascT, x_digT, x_jn, x_js0, x_js1, x_isS, x_fmt, x_fmtS, x_divW, x_truK, x_truS, x_raiseT, x_asg, x_name, x_set0, x_setS, x_drop, x_cb, x_cons, x_nil, x_int1, x_abs1, x_max2, x_gcd, x_gsub, x_sl, x_part, x_nopart, x_int, x_call, x_lst, x_tup, x_not, x_and, x_or, x_andV, x_orV, x_notV, x_ifE, x_eqI, x_neI, x_eqB, x_neB, x_tbm, x_never, x_make, x_meth, x_isII, x_isIC, x_bool1, decide_eq_true_eq, Bool.false_eq_true, if_false, if_true, List.append_nil, List.nil_append, List.cons_append]
  rw [if_neg (by omega)]
  simp only [x_if, x_test, x_B, x_op, x_un, x_varS, x_var0, x_c, x_I0, x_I, x_U, x_bl, x_ret, x_next, x_eqS, x_neS, x_m0, x_m1, x_isStr, x_SM, x_addT, x_slS, x_lenS, x_strI, x_mulS, x_startT, x_findT, x_preT, x_lstT, x_ascT, x_digT, x_jn, x_js0, x_js1, x_isS, x_fmt, x_fmtS, x_divW, x_truK, x_truS, x_raiseT, x_asg, x_name, x_set0, x_setS, x_drop, x_cb, x_cons, x_nil, x_int1, x_abs1, x_max2, x_gcd, x_gsub, x_sl, x_part, x_nopart, x_int, x_call, x_lst, x_tup, x_not, x_and, x_or, x_andV, x_orV, x_notV, x_ifE, x_eqI, x_neI, x_eqB, x_neB, x_tbm, x_never, x_make, x_meth, x_isII, x_isIC, x_bool1, decide_eq_true_eq, Bool.false_eq_true, if_false, if_true, List.append_nil, List.nil_append, List.cons_append, x_sumT he]
  have := x.sum
  rw [if_neg (by omega)]
  exact k
theorem tru_lst {p : Addr} {xs : List V} {H : Hp} (h : H p = some (.lst xs)) : TruV K (.ref p) H (!xs.isEmpty) := .inl ⟨xs, SqL.at h, rfl⟩
theorem pure_total (vs : List V) (H : Hp) (Q : VK) (E : XK) (h : spTotal1 C vs H Q E) : t_total P0 K mg C Z D BN PC VA BP f_place E { nx := fun _ H' => Q .non H', rt := Q } (start ["numbers", "sums", "pairs", "k"] vs) H := by
  obtain ⟨l, r, rfl, hl, k⟩ := h
  show t_total P0 K mg C Z D BN PC VA BP f_place E _ [some (.ref l), none, none, none] H
  unfold t_total
  rw [x_seq]
  simp only [x_if, x_test, x_B, x_op, x_un, x_varS, x_var0, x_c, x_I0, x_I, x_U, x_bl, x_ret, x_next, x_eqS, x_neS, x_m0, x_m1, x_isStr, x_SM, x_addT, x_slS, x_lenS, x_strI, x_mulS, x_startT, x_findT, x_preT, x_lstT, x_ascT, x_digT, x_jn, x_js0, x_js1, x_isS, x_fmt, x_fmtS, x_divW, x_truK, x_truS, x_raiseT, x_asg, x_name, x_set0, x_setS, x_drop, x_cb, x_cons, x_nil, x_int1, x_abs1, x_max2, x_gcd, x_gsub, x_sl, x_part, x_nopart, x_int, x_call, x_lst, x_tup, x_not, x_and, x_or, x_andV, x_orV, x_notV, x_ifE, x_eqI, x_neI, x_eqB, x_neB, x_tbm, x_never, x_make, x_meth, x_isII, x_isIC, x_bool1, decide_eq_true_eq, Bool.false_eq_true, if_false, if_true, List.append_nil, List.nil_append, List.cons_append, x_listA hl]
  intro p hp
  have e1 : (upd H p (.lst [.ref r])) p = some (.lst [.ref r]) := upd_same
  have s1 : Same H (upd H p (.lst [.ref r])) := Same.new hp
  generalize upd H p (.lst [.ref r]) = H1 at e1 s1 ⊢
  rw [x_seq]
  refine while_by (fun σ H' => σ = [some (.ref l), some (.ref p), none, none] ∧ H' = H1) (fun _ _ => 0) ⟨rfl, rfl⟩ ?_ ?_
  · rintro σ H' ⟨rfl, rfl⟩
    simp only [x_seq, x_if, x_test, x_B, x_op, x_un, x_varS, x_var0, x_c, x_I0, x_I, x_U, x_bl, x_ret, x_next, x_eqS, x_neS, x_m0, x_m1, x_isStr, x_SM, x_addT, x_slS, x_lenS, x_strI, x_mulS, x_startT, x_findT, x_preT, x_lstT, x_ascT, x_digT, x_jn, x_js0, x_js1, x_isS, x_fmt, x_fmtS, x_divW, x_truK, x_truS, x_raiseT, x_asg, x_name, x_set0, x_setS, x_drop, x_cb, x_cons, x_nil, x_int1, x_abs1, x_max2, x_gcd, x_gsub, x_sl, x_part, x_nopart, x_int, x_call, x_lst, x_tup, x_not, x_and, x_or, x_andV, x_orV, x_notV, x_ifE, x_eqI, x_neI, x_eqB, x_neB, x_tbm, x_never, x_make, x_meth, x_isII, x_isIC, x_bool1, decide_eq_true_eq, Bool.false_eq_true, if_false, if_true, List.append_nil, List.nil_append, List.cons_append, x_lenA e1, List.length_singleton]
    rw [if_neg (by decide)]
    refine ⟨true, tru_lst e1, ?_⟩
    simp only [x_seq, x_if, x_test, x_B, x_op, x_un, x_varS, x_var0, x_c, x_I0, x_I, x_U, x_bl, x_ret, x_next, x_eqS, x_neS, x_m0, x_m1, x_isStr, x_SM, x_addT, x_slS, x_lenS, x_strI, x_mulS, x_startT, x_findT, x_preT, x_lstT, x_ascT, x_digT, x_jn, x_js0, x_js1, x_isS, x_fmt, x_fmtS, x_divW, x_truK, x_truS, x_raiseT, x_asg, x_name, x_set0, x_setS, x_drop, x_cb, x_cons, x_nil, x_int1, x_abs1, x_max2, x_gcd, x_gsub, x_sl, x_part, x_nopart, x_int, x_call, x_lst, x_tup, x_not, x_and, x_or, x_andV, x_orV, x_notV, x_ifE, x_eqI, x_neI, x_eqB, x_neB, x_tbm, x_never, x_make, x_meth, x_isII, x_isIC, x_bool1, decide_eq_true_eq, Bool.false_eq_true, if_false, if_true, List.append_nil, List.nil_append, List.cons_append, x_ix e1 (show atI [V.ref r] 0 = some (V.ref r) from rfl)]
    exact k _ s1
  · rintro σ H' R R' hR ⟨i, j, h1, h2, v, w, e1, e2, q1, q2, kk, q3, q4⟩
    exact ⟨i, j, h1, h2, v, w, e1, e2, q1, q2, kk, q3, hR _ _ q4⟩
/-! ### walks of a list of one item -/
theorem x_tup2 {p : Addr} {u v : V} {i j : Nat} {σ : L2.St} {H : Hp} {Q : L2.St → Hp → Prop} (h : H p = some (.tup [u, v])) (k1 : Q ((σ.set i (some u)).set j (some v)) H) : gTup K 2 (gCons (gName i) (gCons (gName j) gNil)) (.ref p) σ H Q :=
  ⟨p, [u, v], rfl, SqT.at h, rfl, u, [v], rfl, v, [], rfl, rfl, k1⟩
/-- behind the one turn -/
def OneW (H : Hp) (p : Addr) (x : V) (o : HO) (Q : VK) (D2 : Addr) (j : Nat) (H' : Hp) : Prop := (j = 0 ∧ H' = upd H D2 o) ∨ (j = 1 ∧ H' p = some (.lst [x]) ∧ Q (.ref D2) H')
theorem lcL_one {te : TE} {tt : TT} {σ : L2.St} {H : Hp} {Q : VK} {p : Addr} {x : V} {i : Nat} (h : H p = some (.lst [x]))
    (k : ∀ D2, H D2 = none → p ≠ D2 → tt ((wipe σ [i]).set i (some x)) (upd H D2 (.lst [])) fun b H3 => if b = true then te ((wipe σ [i]).set i (some x)) H3 fun y H4 => ∃ acc, H4 D2 = some (.lst acc) ∧ acc.length < sizeLine ∧ OneW H p x (.lst []) Q D2 1 (upd H4 D2 (.lst (acc ++ [y]))) else OneW H p x (.lst []) Q D2 1 H3) :
    tLc (iList K (tC (.ref p))) (gName i) tt te [i] σ H Q := by
  refine ⟨p, rfl, ⟨_, SqL.at h⟩, fun D2 hD => ?_⟩
  have ne : p ≠ D2 := ne_of_none h hD
  refine lc_list (K := K) (a := p) (xs := [x]) (OneW H p x (.lst []) Q D2) (.inl ⟨rfl, rfl⟩) (fun j H' _ s => ?_) (fun j y H' hj s => ?_) fun H' s => ?_
  · rcases s with ⟨_, rfl⟩ | ⟨_, s, _⟩
    · exact SqL.at (by rw [upd_ne ne]; exact h)
    · exact SqL.at s
  · rcases s with ⟨rfl, rfl⟩ | ⟨rfl, s, _⟩
    · obtain rfl : x = y := by simpa using hj
      exact ⟨wipe1, k D2 hD ne⟩
    · simp at hj
  · rcases s with ⟨e, _⟩ | ⟨_, _, q⟩
    · simp at e
    · exact q
theorem lcT_one {tv te : TE} {tt : TT} {σ : L2.St} {H : Hp} {Q : VK} {i : Nat} (Good : Addr → V → Hp → Prop) (hv : ∀ G : VK, (∀ p x H1, Good p x H1 → G (.ref p) H1) → tv σ H G)
    (k : ∀ p x H1, Good p x H1 → H1 p = some (.lst [x]) ∧ ∀ D2, H1 D2 = none → p ≠ D2 → tt ((wipe σ [i]).set i (some x)) (upd H1 D2 (.lst [])) fun b H3 => if b = true then te ((wipe σ [i]).set i (some x)) H3 fun y H4 => ∃ acc, H4 D2 = some (.lst acc) ∧ acc.length < sizeLine ∧ OneW H1 p x (.lst []) Q D2 1 (upd H4 D2 (.lst (acc ++ [y]))) else OneW H1 p x (.lst []) Q D2 1 H3) :
    tLc (iList K tv) (gName i) tt te [i] σ H Q := by
  show tv σ H _
  refine hv _ fun p x H1 hg => ?_
  have kk := k p x H1 hg
  exact lcL_one (K := K) (σ := σ) (Q := Q) kk.1 kk.2
theorem one_end {H H' : Hp} {p D2 : Addr} {x : V} {Q : VK} {o o' : HO} (ne : p ≠ D2) (h : H' p = some (.lst [x])) (k : Q (.ref D2) (upd H' D2 o')) : OneW H p x o Q D2 1 (upd H' D2 o') := .inr ⟨rfl, by rw [upd_ne ne]; exact h, k⟩
theorem dcL_one {tk tv : TE} {g : TG} {vs : List Nat} {σ : L2.St} {H : Hp} {Q : VK} {p : Addr} {x : V} (h : H p = some (.lst [x]))
    (k : ∀ D2, H D2 = none → p ≠ D2 → g x (wipe σ vs) (upd H D2 (.dT [])) fun σ2 H2 => wipe σ2 vs = wipe σ vs ∧ tk σ2 H2 fun y H4 => tv σ2 H4 fun z H5 => ∃ H6, PutT D2 H5 y z H6 ∧ OneW H p x (.dT []) Q D2 1 H6) :
    tDcG (.dT []) PutT (iList K (tC (.ref p))) g tYes tk tv vs σ H Q := by
  refine ⟨p, rfl, ⟨_, SqL.at h⟩, fun D2 hD => ?_⟩
  have ne : p ≠ D2 := ne_of_none h hD
  refine ⟨fun i m H' => m = 1 - i ∧ OneW H p x (.dT []) Q D2 i H', ⟨1, rfl, .inl ⟨rfl, rfl⟩⟩, ?_⟩
  rintro i m H' ⟨rfl, s⟩
  rcases s with ⟨rfl, rfl⟩ | ⟨rfl, s, q⟩
  · have at0 : SqL K (upd H D2 (.dT [])) p [x] := SqL.at (by rw [upd_ne ne]; exact h)
    refine .inr ⟨⟨[x], x, at0, rfl⟩, OneW H p x (.dT []) Q D2 1, fun H'' w => ⟨0, by decide, rfl, w⟩, fun y H'' hy => ?_⟩
    obtain ⟨e, hy⟩ := hy
    subst e
    obtain rfl : x = y := by simpa using hy [x] at0
    exact k D2 hD ne
  · exact .inl ⟨⟨[x], SqL.at s, Nat.le_refl _⟩, q⟩
theorem dcT_one {tw tk tv : TE} {g : TG} {vs : List Nat} {σ : L2.St} {H : Hp} {Q : VK} (Good : Addr → V → Hp → Prop) (hv : ∀ G : VK, (∀ p x H1, Good p x H1 → G (.ref p) H1) → tw σ H G)
    (k : ∀ p x H1, Good p x H1 → H1 p = some (.lst [x]) ∧ ∀ D2, H1 D2 = none → p ≠ D2 → g x (wipe σ vs) (upd H1 D2 (.dT [])) fun σ2 H2 => wipe σ2 vs = wipe σ vs ∧ tk σ2 H2 fun y H4 => tv σ2 H4 fun z H5 => ∃ H6, PutT D2 H5 y z H6 ∧ OneW H1 p x (.dT []) Q D2 1 H6) :
    tDcG (.dT []) PutT (iList K tw) g tYes tk tv vs σ H Q := by
  show tw σ H _
  refine hv _ fun p x H1 hg => ?_
  have kk := k p x H1 hg
  exact dcL_one (K := K) (σ := σ) (Q := Q) kk.1 kk.2
/-! ### the polynomial -/
/-- a polynomial of one term -/
def PolyAt (C PC : Addr) (H : Hp) (p : Addr) (es : List Int) (t b : Int) : Prop := ∃ dx l q e r d, H p = some (.ins PC dx [("dimension", .int es.length), ("_pairs", .ref l), ("_numbers", .ref d)]) ∧ H l = some (.lst [.ref q]) ∧ H q = some (.tup [.ref e, .ref r]) ∧ ExpAt H e es ∧ RatAt C H r t b
theorem PolyAt.same {C PC : Addr} {H H' : Hp} {p : Addr} {es : List Int} {t b : Int} (h : PolyAt C PC H p es t b) (s : Same H H') : PolyAt C PC H' p es t b := by
  obtain ⟨dx, l, q, e, r, d, h1, h2, h3, h4, h5⟩ := h
  exact ⟨dx, l, q, e, r, d, s _ _ h1, s _ _ h2, s _ _ h3, s _ _ h4, h5.same s⟩
/-- the list of one term -/
def TermAt (C : Addr) (H : Hp) (l : Addr) (es : List Int) (t b : Int) : Prop := ∃ q e r, H l = some (.lst [.ref q]) ∧ H q = some (.tup [.ref e, .ref r]) ∧ ExpAt H e es ∧ RatAt C H r t b
def spPInit (C PC : Addr) : Sp := fun vs H Q _ => ∃ (p dx l : Addr) (es : List Int) (t b : Int), vs = [.ref p, .int es.length, .ref l] ∧ H p = some (.ins PC dx []) ∧ TermAt C H l es t b ∧ Exps es ∧ t ≠ 0 ∧ ∀ H', PolyAt C PC H' p es t b → Keep p H H' → Q .non H'
def t_pinit (P : Program) (K : PySem.W.Frag) (mg : Str → Option Value) (C Z D BN PC VA BP f_place : Addr) (E : XK) : TS :=
    (tSeq (tDrop (tCall spChk3 [] E0 (tCons (tVar 1) tNil)))
    (tSeq (tAsg tDNewT (gName 3))
    (tSeq (tFor (iList K (tVar 2)) (gTup K 2 (gCons (gName 5) (gCons (gName 6) gNil))) ((tSeq (tDrop (tCall spChkx [] E0 (tCons (tVar 5) (tCons (tVar 1) tNil))))
    (tDrop (tBM K "list" rAppend (tSetdT (tVar 3) (tCB rTupA (tCons (tVar 5) tNil)) (tLst tNil)) (tCons (tVar 6) tNil))))))
    (tSeq (tAsg (tLc (iList K (tCKw (rSortKey K f_place spPlace) (tCons (tCB rListDT (tCons (tVar 3) tNil)) tNil) (tCons (tC (.ref f_place)) tNil))) (gName 7) tYes (tTup (tCons (tVar 7) (tCons (tCall (spTotal1 C) [] E0 (tCons (tDGet (tVar 3) (tVar 7)) tNil)) tNil))) [7]) (gName 4))
    (tSeq (sFld K (tVar 0) (tVar 1) "dimension")
    (tSeq (sFld K (tVar 0) (tLc (iList K (tVar 4)) (gName 8) (tTruO C (spBool C) E0 (tOp rIx1 (tVar 8) (tC (.int 1)))) (tVar 8) [8]) "_pairs")
    (sFld K (tVar 0) (tDcG (.dT []) PutT (iList K (tUn (rFld PC "_pairs") (tVar 0))) (gTup K 2 (gCons (gName 7) (gCons (gName 6) gNil))) tYes (tVar 7) (tVar 6) [7, 6]) "_numbers")))))))
theorem keyI (es : List Int) : (es.map (Sum.inl : Int → L2.Key)).map kV = es.map V.int := by
  rw [List.map_map]
  rfl
theorem place_ne (es : List Int) : plc es ≠ [] := by unfold plc; simp
theorem sortOne (x : V) (k : List Int) : sortBy [x] [k] = [x] := by simp [sortBy]
theorem sort_one {tv : TE} {σ : L2.St} {H : Hp} {Q : VK} {D2 : Addr} {v : V} {es : List Int} (x : Exps es) (hv : ∀ Q : VK, tv σ H Q = Q (.ref D2) H) (d1 : H D2 = some (.dT [(es.map Sum.inl, v)]))
    (k : ∀ (lp e2 : Addr) (H' : Hp), ExpAt H' e2 es → Same H H' → H' lp = some (.lst [.ref e2]) → Q (.ref lp) H') : tCKw (rSortKey K f_place spPlace) (tCons (tCB rListDT (tCons tv tNil)) tNil) (tCons (tC (.ref f_place)) tNil) σ H Q := by
  unfold tCKw
  simp only [x_if, x_test, x_B, x_op, x_un, x_varS, x_var0, x_c, x_I0, x_I, x_U, x_bl, x_ret, x_next, x_eqS, x_neS, x_m0, x_m1, x_isStr, x_SM, x_addT, x_slS, x_lenS, x_strI, x_mulS, x_startT, x_findT, x_preT, x_lstT, x_ascT, x_digT, x_jn, x_js0, x_js1, x_isS, x_fmt, x_fmtS, x_divW, x_truK, x_truS, x_raiseT, x_asg, x_name, x_set0, x_setS, x_drop, x_cb, x_cons, x_nil, x_int1, x_abs1, x_max2, x_gcd, x_gsub, x_sl, x_part, x_nopart, x_int, x_call, x_lst, x_tup, x_not, x_and, x_or, x_andV, x_orV, x_notV, x_ifE, x_eqI, x_neI, x_eqB, x_neB, x_tbm, x_never, x_make, x_meth, x_isII, x_isIC, x_bool1, decide_eq_true_eq, Bool.false_eq_true, if_false, if_true, List.append_nil, List.nil_append, List.cons_append, hv]
  refine ⟨D2, _, rfl, .inl d1, fun lk bs hlk hbs => ?_⟩
  obtain ⟨e2, rfl, he2⟩ : ∃ e, bs = [e] ∧ ExpAt H e es := by
    cases hbs with
    | cons h t =>
      cases t
      refine ⟨_, rfl, ?_⟩
      rw [keyI] at h
      exact h
  have k2 : (upd H lk (.lst ([e2].map V.ref))) lk = some (.lst [.ref e2]) := upd_same
  have s2 : Same H (upd H lk (.lst ([e2].map V.ref))) := Same.new hlk
  generalize upd H lk (.lst ([e2].map V.ref)) = H2 at k2 s2 ⊢
  refine ⟨lk, [.ref e2], [plc es], rfl, rfl, SqL.at k2, rfl, fun k hk => by rw [List.mem_singleton.mp hk]; exact place_ne es, fun i y k H3 hy hk s => ?_, fun lp H3 hlp s3 => ?_⟩
  · cases i with
    | succ i => simp at hy
    | zero =>
      obtain rfl : V.ref e2 = y := by simpa using hy
      obtain rfl : plc es = k := by simpa using hk
      exact ⟨e2, es, rfl, s _ _ (s2 _ _ he2), by have := x.three; omega, fun q H4 hq s1 => ⟨s1, q, rfl, hq⟩⟩
  rw [sortOne]
  exact k lp e2 _ (s3.trans (Same.new hlp) _ _ (s2 _ _ he2)) ((s2.trans s3).trans (Same.new hlp)) upd_same
theorem pairs_one {A1 A2 A4 A5 A6 : Option V} {H : Hp} {Q : VK} {D2 L r : Addr} {es : List Int} (x : Exps es) (d1 : H D2 = some (.dT [(es.map Sum.inl, .ref L)])) (l1 : H L = some (.lst [.ref r]))
    (k : ∀ (PL pr e2 : Addr) (H' : Hp), H' PL = some (.lst [.ref pr]) → H' pr = some (.tup [.ref e2, .ref r]) → ExpAt H' e2 es → Same H H' → Q (.ref PL) H') :
    tLc (iList K (tCKw (rSortKey K f_place spPlace) (tCons (tCB rListDT (tCons (tVar 3) tNil)) tNil) (tCons (tC (.ref f_place)) tNil))) (gName 7) tYes (tTup (tCons (tVar 7) (tCons (tCall (spTotal1 C) [] E0 (tCons (tDGet (tVar 3) (tVar 7)) tNil)) tNil))) [7]
      [A1, A2, A4, some (.ref D2), none, A5, A6, none, none] H Q := by
  refine lcT_one (fun lp y H4 => ∃ e2, y = .ref e2 ∧ ExpAt H4 e2 es ∧ Same H H4 ∧ H4 lp = some (.lst [.ref e2])) (fun G g => sort_one x (fun Q => by simp only [x_seq, x_if, x_test, x_B, x_op, x_un, x_varS, x_var0, x_c, x_I0, x_I, x_U, x_bl, x_ret, x_next, x_eqS, x_neS, x_m0, x_m1, x_isStr, x_SM, x_addT, x_slS, x_lenS, x_strI, x_mulS, x_startT, x_findT, x_preT, x_lstT, x_ascT, x_digT, x_jn, x_js0, x_js1, x_isS, x_fmt, x_fmtS, x_divW, x_truK, x_truS, x_raiseT, x_asg, x_name, x_set0, x_setS, x_drop, x_cb, x_cons, x_nil, x_int1, x_abs1, x_max2, x_gcd, x_gsub, x_sl, x_part, x_nopart, x_int, x_call, x_lst, x_tup, x_not, x_and, x_or, x_andV, x_orV, x_notV, x_ifE, x_eqI, x_neI, x_eqB, x_neB, x_tbm, x_never, x_make, x_meth, x_isII, x_isIC, x_bool1, decide_eq_true_eq, Bool.false_eq_true, if_false, if_true, List.append_nil, List.nil_append, List.cons_append]) d1 fun lp e2 H4 he2 s4 k4 => g _ _ _ ⟨e2, rfl, he2, s4, k4⟩) fun lp y H4 hg => ?_
  obtain ⟨e2, rfl, he2, s4, k4⟩ := hg
  refine ⟨k4, fun D3 hD3 n3 => ?_⟩
  unfold tYes
  dsimp only
  rw [if_pos rfl]
  show tTup (tCons (tVar 7) (tCons (tCall (spTotal1 C) [] E0 (tCons (tDGet (tVar 3) (tVar 7)) tNil)) tNil)) [A1, A2, A4, some (.ref D2), none, A5, A6, some (.ref e2), none] (upd H4 D3 (.lst [])) _
  have f0 : (upd H4 D3 (.lst [])) D3 = some (.lst []) := upd_same
  have f1 : (upd H4 D3 (.lst [])) lp = some (.lst [.ref e2]) := by rw [upd_ne n3]; exact k4
  have s5 : Same H (upd H4 D3 (.lst [])) := Same.new' s4 hD3
  have he3 : ExpAt (upd H4 D3 (.lst [])) e2 es := (Same.new hD3) _ _ he2
  generalize upd H4 D3 (.lst []) = H5 at f0 f1 s5 he3 ⊢
  unfold tDGet
  simp only [x_if, x_test, x_B, x_op, x_un, x_varS, x_var0, x_c, x_I0, x_I, x_U, x_bl, x_ret, x_next, x_eqS, x_neS, x_m0, x_m1, x_isStr, x_SM, x_addT, x_slS, x_lenS, x_strI, x_mulS, x_startT, x_findT, x_preT, x_lstT, x_ascT, x_digT, x_jn, x_js0, x_js1, x_isS, x_fmt, x_fmtS, x_divW, x_truK, x_truS, x_raiseT, x_asg, x_name, x_set0, x_setS, x_drop, x_cb, x_cons, x_nil, x_int1, x_abs1, x_max2, x_gcd, x_gsub, x_sl, x_part, x_nopart, x_int, x_call, x_lst, x_tup, x_not, x_and, x_or, x_andV, x_orV, x_notV, x_ifE, x_eqI, x_neI, x_eqB, x_neB, x_tbm, x_never, x_make, x_meth, x_isII, x_isIC, x_bool1, decide_eq_true_eq, Bool.false_eq_true, if_false, if_true, List.append_nil, List.nil_append, List.cons_append]
  refine ⟨D2, .ref L, rfl, ?_, L, r, rfl, s5 _ _ l1, fun H6 s6 => ⟨by show 2 ≤ sizeLine; decide, fun pr hpr => ⟨[], ?_, by decide, .inr ⟨rfl, ?_, ?_⟩⟩⟩⟩
  · have := DGet.t (a := D2) (b := e2) (k := es.map Sum.inl) (s5 _ _ d1) (by rw [keyI]; exact he3)
    simpa [valV] using this
  · rw [upd_ne (ne_of_none (s6 _ _ f0) hpr)]
    exact s6 _ _ f0
  · rw [upd_ne n3, upd_ne (ne_of_none (s6 _ _ f1) hpr)]
    exact s6 _ _ f1
  · have nD : ∀ {c o}, H6 c = some o → o ≠ .lst [] → c ≠ D3 := fun hc no z => no (by rw [z, s6 _ _ f0] at hc; cases hc; rfl)
    refine k D3 pr e2 _ upd_same ?_ ?_ fun c o hc => ?_
    · rw [upd_ne (ne_of_none (s6 _ _ f0) hpr).symm, upd_same]
    · show _ = some (HO.tup _)
      rw [upd_ne (nD (s6 _ _ he3) (by simp)), upd_ne (ne_of_none (s6 _ _ he3) hpr)]
      exact s6 _ _ he3
    · have hc4 := s4 _ _ hc
      have cD : c ≠ D3 := ne_of_none hc4 hD3
      rw [upd_ne cD, upd_ne (ne_of_none (s6 _ _ (s5 _ _ hc)) hpr)]
      exact s6 _ _ (s5 _ _ hc)
theorem x_truO {C : Addr} {sp : Sp} {E : XK} {H : Hp} {Q : Bool → Hp → Prop} {p dx : Addr} {fs : List (Str × V)} (h : H p = some (.ins C dx fs)) (k : sp [.ref p] H (fun v H' => ∃ b, v = .bl b ∧ Q b H') E) : rTruO C sp E (.ref p) H Q := ⟨p, dx, fs, rfl, h, k⟩
theorem filter_one {A0 A1 A2 A3 A5 A6 A7 : Option V} {H : Hp} {Q : VK} {PL pr e2 r : Addr} {t b : Int} (nz : t ≠ 0) (b1 : H PL = some (.lst [.ref pr])) (b2 : H pr = some (.tup [.ref e2, .ref r])) (hr : RatAt C H r t b)
    (k : ∀ (P2 : Addr) (H' : Hp), H' P2 = some (.lst [.ref pr]) → Same H H' → Q (.ref P2) H') :
    tLc (iList K (tVar 4)) (gName 8) (tTruO C (spBool C) E0 (tOp rIx1 (tVar 8) (tC (.int 1)))) (tVar 8) [8] [A0, A1, A2, A3, some (.ref PL), A5, A6, A7, none] H Q := by
  refine lcT_one (fun lp y H4 => lp = PL ∧ y = .ref pr ∧ H4 = H) (fun G g => by simp only [x_seq, x_if, x_test, x_B, x_op, x_un, x_varS, x_var0, x_c, x_I0, x_I, x_U, x_bl, x_ret, x_next, x_eqS, x_neS, x_m0, x_m1, x_isStr, x_SM, x_addT, x_slS, x_lenS, x_strI, x_mulS, x_startT, x_findT, x_preT, x_lstT, x_ascT, x_digT, x_jn, x_js0, x_js1, x_isS, x_fmt, x_fmtS, x_divW, x_truK, x_truS, x_raiseT, x_asg, x_name, x_set0, x_setS, x_drop, x_cb, x_cons, x_nil, x_int1, x_abs1, x_max2, x_gcd, x_gsub, x_sl, x_part, x_nopart, x_int, x_call, x_lst, x_tup, x_not, x_and, x_or, x_andV, x_orV, x_notV, x_ifE, x_eqI, x_neI, x_eqB, x_neB, x_tbm, x_never, x_make, x_meth, x_isII, x_isIC, x_bool1, decide_eq_true_eq, Bool.false_eq_true, if_false, if_true, List.append_nil, List.nil_append, List.cons_append]; exact g _ _ _ ⟨rfl, rfl, rfl⟩) fun lp y H4 hg => ?_
  obtain ⟨rfl, rfl, rfl⟩ := hg
  refine ⟨b1, fun D3 hD3 n3 => ?_⟩
  show tTruO C (spBool C) E0 (tOp rIx1 (tVar 8) (tC (.int 1))) [A0, A1, A2, A3, some (.ref lp), A5, A6, A7, some (.ref pr)] (upd H4 D3 (.lst [])) _
  have f0 : (upd H4 D3 (.lst [])) D3 = some (.lst []) := upd_same
  have s5 : Same H4 (upd H4 D3 (.lst [])) := Same.new hD3
  have f1 := s5 _ _ b1
  have f2 := s5 _ _ b2
  have hr5 := hr.same s5
  generalize upd H4 D3 (.lst []) = H5 at f0 f1 f2 s5 hr5 ⊢
  unfold tTruO
  obtain ⟨dr, hr6⟩ := hr5
  simp only [x_if, x_test, x_B, x_op, x_un, x_varS, x_var0, x_c, x_I0, x_I, x_U, x_bl, x_ret, x_next, x_eqS, x_neS, x_m0, x_m1, x_isStr, x_SM, x_addT, x_slS, x_lenS, x_strI, x_mulS, x_startT, x_findT, x_preT, x_lstT, x_ascT, x_digT, x_jn, x_js0, x_js1, x_isS, x_fmt, x_fmtS, x_divW, x_truK, x_truS, x_raiseT, x_asg, x_name, x_set0, x_setS, x_drop, x_cb, x_cons, x_nil, x_int1, x_abs1, x_max2, x_gcd, x_gsub, x_sl, x_part, x_nopart, x_int, x_call, x_lst, x_tup, x_not, x_and, x_or, x_andV, x_orV, x_notV, x_ifE, x_eqI, x_neI, x_eqB, x_neB, x_tbm, x_never, x_make, x_meth, x_isII, x_isIC, x_bool1, decide_eq_true_eq, Bool.false_eq_true, if_false, if_true, List.append_nil, List.nil_append, List.cons_append, x_ixT f2 at1]
  refine x_truO hr6 ⟨r, t, b, rfl, ⟨dr, hr6⟩, true, by simp [nz], ?_⟩
  rw [if_pos rfl]
  show tVar 8 [A0, A1, A2, A3, some (.ref lp), A5, A6, A7, some (.ref pr)] H5 _
  simp only [x_if, x_test, x_B, x_op, x_un, x_varS, x_var0, x_c, x_I0, x_I, x_U, x_bl, x_ret, x_next, x_eqS, x_neS, x_m0, x_m1, x_isStr, x_SM, x_addT, x_slS, x_lenS, x_strI, x_mulS, x_startT, x_findT, x_preT, x_lstT, x_ascT, x_digT, x_jn, x_js0, x_js1, x_isS, x_fmt, x_fmtS, x_divW, x_truK, x_truS, x_raiseT, x_asg, x_name, x_set0, x_setS, x_drop, x_cb, x_cons, x_nil, x_int1, x_abs1, x_max2, x_gcd, x_gsub, x_sl, x_part, x_nopart, x_int, x_call, x_lst, x_tup, x_not, x_and, x_or, x_andV, x_orV, x_notV, x_ifE, x_eqI, x_neI, x_eqB, x_neB, x_tbm, x_never, x_make, x_meth, x_isII, x_isIC, x_bool1, decide_eq_true_eq, Bool.false_eq_true, if_false, if_true, List.append_nil, List.nil_append, List.cons_append]
  refine ⟨[], f0, by decide, one_end n3 f1 (k _ _ upd_same fun c o hc => ?_)⟩
  rw [upd_ne (ne_of_none hc hD3)]
  exact s5 _ _ hc
theorem dict_one {A1 A2 A3 A4 A5 A6 A7 A8 : Option V} {H : Hp} {Q : VK} {p dx PL pr e2 r : Addr} {fs : List (Str × V)} {es : List Int} (hp : H p = some (.ins PC dx fs)) (hf : fs.lookup ("_pairs" : Str) = some (V.ref PL)) (b1 : H PL = some (.lst [.ref pr])) (b2 : H pr = some (.tup [.ref e2, .ref r])) (b3 : ExpAt H e2 es)
    (k : ∀ (P2 : Addr) (H' : Hp), Same H H' → Q (.ref P2) H') :
    tDcG (.dT []) PutT (iList K (tUn (rFld PC "_pairs") (tVar 0))) (gTup K 2 (gCons (gName 7) (gCons (gName 6) gNil))) tYes (tVar 7) (tVar 6) [7, 6] [some (.ref p), A1, A2, A3, A4, A5, A6, A7, A8] H Q := by
  refine dcT_one (fun lp y H4 => lp = PL ∧ y = .ref pr ∧ H4 = H) (fun G g => ?_) fun lp y H4 hg => ?_
  · simp only [x_if, x_test, x_B, x_op, x_un, x_varS, x_var0, x_c, x_I0, x_I, x_U, x_bl, x_ret, x_next, x_eqS, x_neS, x_m0, x_m1, x_isStr, x_SM, x_addT, x_slS, x_lenS, x_strI, x_mulS, x_startT, x_findT, x_preT, x_lstT, x_ascT, x_digT, x_jn, x_js0, x_js1, x_isS, x_fmt, x_fmtS, x_divW, x_truK, x_truS, x_raiseT, x_asg, x_name, x_set0, x_setS, x_drop, x_cb, x_cons, x_nil, x_int1, x_abs1, x_max2, x_gcd, x_gsub, x_sl, x_part, x_nopart, x_int, x_call, x_lst, x_tup, x_not, x_and, x_or, x_andV, x_orV, x_notV, x_ifE, x_eqI, x_neI, x_eqB, x_neB, x_tbm, x_never, x_make, x_meth, x_isII, x_isIC, x_bool1, decide_eq_true_eq, Bool.false_eq_true, if_false, if_true, List.append_nil, List.nil_append, List.cons_append]
    exact ⟨p, dx, fs, _, rfl, hp, hf, g _ _ _ ⟨rfl, rfl, rfl⟩⟩
  obtain ⟨rfl, rfl, rfl⟩ := hg
  refine ⟨b1, fun D3 hD3 n3 => ?_⟩
  have s5 : Same H4 (upd H4 D3 (.dT [])) := Same.new hD3
  refine x_tup2 (s5 _ _ b2) ⟨rfl, ?_⟩
  show tVar 7 [some (.ref p), A1, A2, A3, A4, A5, some (.ref r), some (.ref e2), A8] (upd H4 D3 (.dT [])) fun y H5 => tVar 6 [some (.ref p), A1, A2, A3, A4, A5, some (.ref r), some (.ref e2), A8] H5 _
  simp only [x_if, x_test, x_B, x_op, x_un, x_varS, x_var0, x_c, x_I0, x_I, x_U, x_bl, x_ret, x_next, x_eqS, x_neS, x_m0, x_m1, x_isStr, x_SM, x_addT, x_slS, x_lenS, x_strI, x_mulS, x_startT, x_findT, x_preT, x_lstT, x_ascT, x_digT, x_jn, x_js0, x_js1, x_isS, x_fmt, x_fmtS, x_divW, x_truK, x_truS, x_raiseT, x_asg, x_name, x_set0, x_setS, x_drop, x_cb, x_cons, x_nil, x_int1, x_abs1, x_max2, x_gcd, x_gsub, x_sl, x_part, x_nopart, x_int, x_call, x_lst, x_tup, x_not, x_and, x_or, x_andV, x_orV, x_notV, x_ifE, x_eqI, x_neI, x_eqB, x_neB, x_tbm, x_never, x_make, x_meth, x_isII, x_isIC, x_bool1, decide_eq_true_eq, Bool.false_eq_true, if_false, if_true, List.append_nil, List.nil_append, List.cons_append]
  refine ⟨_, ⟨[], es.map Sum.inl, e2, upd_same, rfl, by rw [keyI]; exact s5 _ _ b3, by decide, rfl⟩, one_end n3 (s5 _ _ b1) (k _ _ fun c o hc => ?_)⟩
  rw [upd_ne (ne_of_none hc hD3)]
  exact s5 _ _ hc
/-- what the text says of the polynomial's fields -/
structure PolOk (K : PySem.W.Frag) (PC : Addr) : Prop where
  cl : Cls K PC
  nd : NoAttr K PC "dimension"
  np : NoAttr K PC "_pairs"
  nn : NoAttr K PC "_numbers"
theorem pure_pinit (T : PolOk K PC) (vs : List V) (H : Hp) (Q : VK) (E : XK) (h : spPInit C PC vs H Q E) : t_pinit P0 K mg C Z D BN PC VA BP f_place E { nx := fun _ H' => Q .non H', rt := Q } (start ["self", "dimension", "terms", "found", "pairs", "exponents", "number", "place", "pair"] vs) H := by
  obtain ⟨p, dx, l, es, t, b, rfl, hp, ⟨q, e, r, hl, hq, he, hr⟩, x, nz, k⟩ := h
  show t_pinit P0 K mg C Z D BN PC VA BP f_place E _ [some (.ref p), some (.int es.length), some (.ref l), none, none, none, none, none, none] H
  unfold t_pinit
  rw [x_seq]
  simp only [x_if, x_test, x_B, x_op, x_un, x_varS, x_var0, x_c, x_I0, x_I, x_U, x_bl, x_ret, x_next, x_eqS, x_neS, x_m0, x_m1, x_isStr, x_SM, x_addT, x_slS, x_lenS, x_strI, x_mulS, x_startT, x_findT, x_preT, x_lstT, x_ascT, x_digT, x_jn, x_js0, x_js1, x_isS, x_fmt, x_fmtS, x_divW, x_truK, x_truS, x_raiseT, x_asg, x_name, x_set0, x_setS, x_drop, x_cb, x_cons, x_nil, x_int1, x_abs1, x_max2, x_gcd, x_gsub, x_sl, x_part, x_nopart, x_int, x_call, x_lst, x_tup, x_not, x_and, x_or, x_andV, x_orV, x_notV, x_ifE, x_eqI, x_neI, x_eqB, x_neB, x_tbm, x_never, x_make, x_meth, x_isII, x_isIC, x_bool1, decide_eq_true_eq, Bool.false_eq_true, if_false, if_true, List.append_nil, List.nil_append, List.cons_append]
  refine ⟨_, rfl, by have := x.one; omega, by have := x.three; omega, ?_⟩
  dsimp only
  rw [x_seq]
  simp only [x_if, x_test, x_B, x_op, x_un, x_varS, x_var0, x_c, x_I0, x_I, x_U, x_bl, x_ret, x_next, x_eqS, x_neS, x_m0, x_m1, x_isStr, x_SM, x_addT, x_slS, x_lenS, x_strI, x_mulS, x_startT, x_findT, x_preT, x_lstT, x_ascT, x_digT, x_jn, x_js0, x_js1, x_isS, x_fmt, x_fmtS, x_divW, x_truK, x_truS, x_raiseT, x_asg, x_name, x_set0, x_setS, x_drop, x_cb, x_cons, x_nil, x_int1, x_abs1, x_max2, x_gcd, x_gsub, x_sl, x_part, x_nopart, x_int, x_call, x_lst, x_tup, x_not, x_and, x_or, x_andV, x_orV, x_notV, x_ifE, x_eqI, x_neI, x_eqB, x_neB, x_tbm, x_never, x_make, x_meth, x_isII, x_isIC, x_bool1, decide_eq_true_eq, Bool.false_eq_true, if_false, if_true, List.append_nil, List.nil_append, List.cons_append]
  intro D2 hD
  have e1 : (upd H D2 (.dT [])) D2 = some (.dT []) := upd_same
  have s1 : Same H (upd H D2 (.dT [])) := Same.new hD
  generalize upd H D2 (.dT []) = H1 at e1 s1 ⊢
  have hl1 := s1 _ _ hl
  have hq1 := s1 _ _ hq
  have he1 : ExpAt H1 e es := s1 _ _ he
  rw [x_seq]
  refine for_lstV (a := l) (xs := [.ref q]) (fun Q => by simp only [x_seq, x_if, x_test, x_B, x_op, x_un, x_varS, x_var0, x_c, x_I0, x_I, x_U, x_bl, x_ret, x_next, x_eqS, x_neS, x_m0, x_m1, x_isStr, x_SM, x_addT, x_slS, x_lenS, x_strI, x_mulS, x_startT, x_findT, x_preT, x_lstT, x_ascT, x_digT, x_jn, x_js0, x_js1, x_isS, x_fmt, x_fmtS, x_divW, x_truK, x_truS, x_raiseT, x_asg, x_name, x_set0, x_setS, x_drop, x_cb, x_cons, x_nil, x_int1, x_abs1, x_max2, x_gcd, x_gsub, x_sl, x_part, x_nopart, x_int, x_call, x_lst, x_tup, x_not, x_and, x_or, x_andV, x_orV, x_notV, x_ifE, x_eqI, x_neI, x_eqB, x_neB, x_tbm, x_never, x_make, x_meth, x_isII, x_isIC, x_bool1, decide_eq_true_eq, Bool.false_eq_true, if_false, if_true, List.append_nil, List.nil_append, List.cons_append]) (fun i σ H' => (i = 0 ∧ σ = [some (.ref p), some (.int es.length), some (.ref l), some (.ref D2), none, none, none, none, none] ∧ H' = H1) ∨
    (i = 1 ∧ σ = [some (.ref p), some (.int es.length), some (.ref l), some (.ref D2), none, some (.ref e), some (.ref r), none, none] ∧ ∃ L, H' D2 = some (.dT [(es.map Sum.inl, .ref L)]) ∧ H' L = some (.lst [.ref r]) ∧ Keep D2 H1 H')) (.inl ⟨rfl, rfl, rfl⟩) (fun i σ H' _ s => ?_) (fun i y σ H' hy s => ?_) fun σ H' s => ?_
  · rcases s with ⟨_, _, rfl⟩ | ⟨_, _, L, _, _, s⟩
    · exact hl1
    · exact s _ _ (fun z => by rw [z, e1] at hl1; cases hl1) hl1
  · rcases s with ⟨rfl, rfl, rfl⟩ | ⟨rfl, _⟩
    · obtain rfl : V.ref q = y := by simpa using hy
      refine x_tup2 hq1 ?_
      show tSeq _ _ _ [some (.ref p), some (.int es.length), some (.ref l), some (.ref D2), none, some (.ref e), some (.ref r), none, none] H'
      rw [x_seq]
      simp only [x_if, x_test, x_B, x_op, x_un, x_varS, x_var0, x_c, x_I0, x_I, x_U, x_bl, x_ret, x_next, x_eqS, x_neS, x_m0, x_m1, x_isStr, x_SM, x_addT, x_slS, x_lenS, x_strI, x_mulS, x_startT, x_findT, x_preT, x_lstT, x_ascT, x_digT, x_jn, x_js0, x_js1, x_isS, x_fmt, x_fmtS, x_divW, x_truK, x_truS, x_raiseT, x_asg, x_name, x_set0, x_setS, x_drop, x_cb, x_cons, x_nil, x_int1, x_abs1, x_max2, x_gcd, x_gsub, x_sl, x_part, x_nopart, x_int, x_call, x_lst, x_tup, x_not, x_and, x_or, x_andV, x_orV, x_notV, x_ifE, x_eqI, x_neI, x_eqB, x_neB, x_tbm, x_never, x_make, x_meth, x_isII, x_isIC, x_bool1, decide_eq_true_eq, Bool.false_eq_true, if_false, if_true, List.append_nil, List.nil_append, List.cons_append]
      refine ⟨e, es, rfl, he1, x, ?_⟩
      try dsimp only
      try simp only [x_if, x_test, x_B, x_op, x_un, x_varS, x_var0, x_c, x_I0, x_I, x_U, x_bl, x_ret, x_next, x_eqS, x_neS, x_m0, x_m1, x_isStr, x_SM, x_addT, x_slS, x_lenS, x_strI, x_mulS, x_startT, x_findT, x_preT, x_lstT, x_ascT, x_digT, x_jn, x_js0, x_js1, x_isS, x_fmt, x_fmtS, x_divW, x_truK, x_truS, x_raiseT, x_asg, x_name, x_set0, x_setS, x_drop, x_cb, x_cons, x_nil, x_int1, x_abs1, x_max2, x_gcd, x_gsub, x_sl, x_part, x_nopart, x_int, x_call, x_lst, x_tup, x_not, x_and, x_or, x_andV, x_orV, x_notV, x_ifE, x_eqI, x_neI, x_eqB, x_neB, x_tbm, x_never, x_make, x_meth, x_isII, x_isIC, x_bool1, decide_eq_true_eq, Bool.false_eq_true, if_false, if_true, List.append_nil, List.nil_append, List.cons_append]
      unfold tSetdT
      simp only [x_if, x_test, x_B, x_op, x_un, x_varS, x_var0, x_c, x_I0, x_I, x_U, x_bl, x_ret, x_next, x_eqS, x_neS, x_m0, x_m1, x_isStr, x_SM, x_addT, x_slS, x_lenS, x_strI, x_mulS, x_startT, x_findT, x_preT, x_lstT, x_ascT, x_digT, x_jn, x_js0, x_js1, x_isS, x_fmt, x_fmtS, x_divW, x_truK, x_truS, x_raiseT, x_asg, x_name, x_set0, x_setS, x_drop, x_cb, x_cons, x_nil, x_int1, x_abs1, x_max2, x_gcd, x_gsub, x_sl, x_part, x_nopart, x_int, x_call, x_lst, x_tup, x_not, x_and, x_or, x_andV, x_orV, x_notV, x_ifE, x_eqI, x_neI, x_eqB, x_neB, x_tbm, x_never, x_make, x_meth, x_isII, x_isIC, x_bool1, decide_eq_true_eq, Bool.false_eq_true, if_false, if_true, List.append_nil, List.nil_append, List.cons_append]
      refine ⟨D2, [], rfl, e1, ?_⟩
      simp only [x_if, x_test, x_B, x_op, x_un, x_varS, x_var0, x_c, x_I0, x_I, x_U, x_bl, x_ret, x_next, x_eqS, x_neS, x_m0, x_m1, x_isStr, x_SM, x_addT, x_slS, x_lenS, x_strI, x_mulS, x_startT, x_findT, x_preT, x_lstT, x_ascT, x_digT, x_jn, x_js0, x_js1, x_isS, x_fmt, x_fmtS, x_divW, x_truK, x_truS, x_raiseT, x_asg, x_name, x_set0, x_setS, x_drop, x_cb, x_cons, x_nil, x_int1, x_abs1, x_max2, x_gcd, x_gsub, x_sl, x_part, x_nopart, x_int, x_call, x_lst, x_tup, x_not, x_and, x_or, x_andV, x_orV, x_notV, x_ifE, x_eqI, x_neI, x_eqB, x_neB, x_tbm, x_never, x_make, x_meth, x_isII, x_isIC, x_bool1, decide_eq_true_eq, Bool.false_eq_true, if_false, if_true, List.append_nil, List.nil_append, List.cons_append, x_tupT he1]
      refine ⟨by decide, fun L hL => ⟨[], es.map Sum.inl, e, ?_, rfl, ?_, by decide, fun v hv => (by simp [valV] at hv), fun _ => ?_⟩⟩
      · rw [upd_ne (ne_of_none e1 hL)]
        exact e1
      · rw [upd_ne (ne_of_none he1 hL), keyI]
        exact he1
      have nL : L ≠ D2 := (ne_of_none e1 hL).symm
      have l0 : (upd (upd H' L (.lst [])) D2 (.dT (putK [] (es.map Sum.inl) (.ref L)))) L = some (.lst []) := by rw [upd_ne nL, upd_same]
      refine ⟨ty_lst l0, ?_⟩
      rw [x_append l0 (by decide)]
      refine .inr ⟨trivial, trivial, L, ?_, upd_same, fun c o hc ec => ?_⟩
      · rw [upd_ne nL.symm, upd_same]
        rfl
      · rw [upd_ne (ne_of_none ec hL), upd_ne hc, upd_ne (ne_of_none ec hL)]
        exact ec
    · simp at hy
  · rcases s with ⟨e, _⟩ | ⟨_, rfl, L, d1, l1, kp⟩
    · simp at e
    have S : Same H H' := fun c o hc => kp c o (fun z => by rw [z, hD] at hc; cases hc) (s1 _ _ hc)
    clear kp e1 s1 hl1 hq1 he1 H1 hl hq
    show tSeq _ _ _ _ H'
    rw [x_seq]
    simp only [x_asg]
    rw [x_seq]
    simp only [x_asg]
    refine pairs_one x d1 l1 fun PL pr e2 H5 b1 b2 b3 s5 => ?_
    simp only [x_name]
    show tSeq _ _ _ [some (.ref p), some (.int es.length), some (.ref l), some (.ref D2), some (.ref PL), some (.ref e), some (.ref r), none, none] H5
    have S := S.trans s5
    have hp := S _ _ hp
    have hr := hr.same S
    rw [x_seq]
    unfold sFld
    simp only [x_if, x_test, x_B, x_op, x_un, x_varS, x_var0, x_c, x_I0, x_I, x_U, x_bl, x_ret, x_next, x_eqS, x_neS, x_m0, x_m1, x_isStr, x_SM, x_addT, x_slS, x_lenS, x_strI, x_mulS, x_startT, x_findT, x_preT, x_lstT, x_ascT, x_digT, x_jn, x_js0, x_js1, x_isS, x_fmt, x_fmtS, x_divW, x_truK, x_truS, x_raiseT, x_asg, x_name, x_set0, x_setS, x_drop, x_cb, x_cons, x_nil, x_int1, x_abs1, x_max2, x_gcd, x_gsub, x_sl, x_part, x_nopart, x_int, x_call, x_lst, x_tup, x_not, x_and, x_or, x_andV, x_orV, x_notV, x_ifE, x_eqI, x_neI, x_eqB, x_neB, x_tbm, x_never, x_make, x_meth, x_isII, x_isIC, x_bool1, decide_eq_true_eq, Bool.false_eq_true, if_false, if_true, List.append_nil, List.nil_append, List.cons_append]
    refine ⟨p, PC, dx, [], rfl, hp, T.cl, T.nd, by decide, ?_⟩
    rw [x_seq]
    dsimp only
    have np : ∀ {c o}, H5 c = some o → (∀ fs, o ≠ .ins PC dx fs) → c ≠ p := fun hc no z => no [] (by rw [z, hp] at hc; cases hc; rfl)
    have f1 : ∀ {c o fs}, H5 c = some o → (∀ fs, o ≠ .ins PC dx fs) → (upd H5 p (.ins PC dx fs)) c = some o := fun hc no => by rw [upd_ne (np hc no)]; exact hc
    have hr6 : RatAt C (upd H5 p (.ins PC dx (putF "dimension" (.int es.length) []))) r t b := by
      obtain ⟨dr, hr⟩ := hr
      by_cases e : r = p
      · subst e
        rw [hp] at hr
        cases hr
      · exact ⟨dr, by rw [upd_ne e]; exact hr⟩
    refine filter_one nz (f1 b1 (fun _ => by simp)) (f1 b2 (fun _ => by simp)) hr6 fun P2 H6 c1 s6 => ?_
    simp only [x_if, x_test, x_B, x_op, x_un, x_varS, x_var0, x_c, x_I0, x_I, x_U, x_bl, x_ret, x_next, x_eqS, x_neS, x_m0, x_m1, x_isStr, x_SM, x_addT, x_slS, x_lenS, x_strI, x_mulS, x_startT, x_findT, x_preT, x_lstT, x_ascT, x_digT, x_jn, x_js0, x_js1, x_isS, x_fmt, x_fmtS, x_divW, x_truK, x_truS, x_raiseT, x_asg, x_name, x_set0, x_setS, x_drop, x_cb, x_cons, x_nil, x_int1, x_abs1, x_max2, x_gcd, x_gsub, x_sl, x_part, x_nopart, x_int, x_call, x_lst, x_tup, x_not, x_and, x_or, x_andV, x_orV, x_notV, x_ifE, x_eqI, x_neI, x_eqB, x_neB, x_tbm, x_never, x_make, x_meth, x_isII, x_isIC, x_bool1, decide_eq_true_eq, Bool.false_eq_true, if_false, if_true, List.append_nil, List.nil_append, List.cons_append]
    refine ⟨p, PC, dx, _, rfl, s6 _ _ upd_same, T.cl, T.np, by show 1 < 1000; decide, ?_⟩
    have q2 := s6 _ _ (f1 b2 (fs := putF "dimension" (.int es.length) []) (fun _ => by simp))
    have q3 : ExpAt H6 e2 es := s6 _ _ (f1 b3 (fs := putF "dimension" (.int es.length) []) (fun _ => by simp))
    have qr := hr6.same s6
    have qp := s6 _ _ (upd_same (H := H5) (a := p) (o := .ins PC dx (putF "dimension" (.int es.length) [])))
    have g1 : ∀ {c o fs}, H6 c = some o → (∀ fs, o ≠ .ins PC dx fs) → (upd H6 p (.ins PC dx fs)) c = some o := fun hc no => by
      rw [upd_ne (fun z => no _ (by rw [z, qp] at hc; cases hc; rfl))]
      exact hc
    refine dict_one (p := p) (PL := P2) (dx := dx) upd_same rfl (g1 c1 (fun _ => by simp)) (g1 q2 (fun _ => by simp)) (g1 q3 (fun _ => by simp)) fun P3 H8 s8 => ?_
    refine ⟨p, PC, dx, _, rfl, s8 _ _ upd_same, T.cl, T.nn, by show 2 < 1000; decide, ?_⟩
    have h1 : ∀ {c o fs}, H6 c = some o → (∀ fs, o ≠ .ins PC dx fs) → (upd H8 p (.ins PC dx fs)) c = some o := fun hc no => by
      rw [upd_ne (fun z => no _ (by rw [z, qp] at hc; cases hc; rfl))]
      exact s8 _ _ (g1 hc no)
    refine k _ ⟨dx, P2, pr, e2, r, P3, by rw [upd_same]; rfl, h1 c1 (fun _ => by simp), h1 q2 (fun _ => by simp), h1 q3 (fun _ => by simp), ?_⟩ fun c o hc ec => ?_
    · obtain ⟨dr, qr⟩ := qr
      have e : r ≠ p := fun e => by
        subst e
        rw [qp] at qr
        simp [putF, RF] at qr
      exact ⟨dr, by rw [upd_ne e]; exact s8 _ _ (by rw [upd_ne e]; exact qr)⟩
    · rw [upd_ne hc]
      refine s8 _ _ ?_
      rw [upd_ne hc]
      refine s6 _ _ ?_
      rw [upd_ne hc]
      exact S _ _ ec
end SpX

set_option Elab.async false
set_option linter.all false
set_option maxRecDepth 100000
set_option maxHeartbeats 2000000
/-! k65: products of long ratios, == of polynomials of one term. -/
namespace SpX
open PySem PySem.Spec NumText L2 StX RZ
def spMulW (C : Addr) : Sp := fun vs H Q _ => ∃ (p : Addr) (v : V) (t b u c : Int), vs = [.ref p, v] ∧ RatAt C H p t b ∧ NumAt C H v u c ∧ Low t b ∧ Low u c ∧ Bd 40000 t ∧ Bd 40000 b ∧ Bd 40000 u ∧ Bd 40000 c ∧ Nat.gcd (t * u).natAbs (b * c).natAbs < 2 ^ 8000 ∧ Gives C H (t * u) (b * c) Q
def spRmulW (C : Addr) : Sp := fun vs H Q _ => ∃ (p : Addr) (t b u : Int), vs = [.ref p, .int u] ∧ RatAt C H p t b ∧ Low t b ∧ Bd 2000 t ∧ Bd 2000 b ∧ Bd 2000 u ∧ Gives C H (t * u) (b * 1) Q
def spAbsW (C : Addr) : Sp := fun vs H Q _ => ∃ (p : Addr) (t b : Int), vs = [.ref p] ∧ RatAt C H p t b ∧ Low t b ∧ Gives C H (if t < 0 then -t else t) b Q
def t_mulw (P : Program) (K : PySem.W.Frag) (mg : Str → Option Value) (C Z D BN PC VA BP f_place : Addr) (E : XK) : TS :=
    (tSeq (tIfS (tB (tCB (rIsA C) (tCons (tVar 1) (tCons (tC (.ty "int")) tNil)))) (tRet (tMake C (spInit C Z) [] E0 (tCons (tOp (rI IntMulOk fun i j => .int (i * j)) (tUn (rFld C "top") (tVar 0)) (tVar 1)) (tCons (tUn (rFld C "bottom") (tVar 0)) tNil)))) tNext)
    (tSeq (tIfS (tNot (tB (tCB (rIsA C) (tCons (tVar 1) (tCons (tC (.ref C)) tNil))))) tNever tNext)
    (tRet (tMake C (spInit C Z) [] E0 (tCons (tOp (rI IntMulOk fun i j => .int (i * j)) (tUn (rFld C "top") (tVar 0)) (tUn (rFld C "top") (tVar 1))) (tCons (tOp (rI IntMulOk fun i j => .int (i * j)) (tUn (rFld C "bottom") (tVar 0)) (tUn (rFld C "bottom") (tVar 1))) tNil))))))
def t_rmulw (P : Program) (K : PySem.W.Frag) (mg : Str → Option Value) (C Z D BN PC VA BP f_place : Addr) (E : XK) : TS :=
    (tRet (tOp (rOwnI C (spMulW C) E0) (tVar 0) (tVar 1)))
def t_absw (P : Program) (K : PySem.W.Frag) (mg : Str → Option Value) (C Z D BN PC VA BP f_place : Addr) (E : XK) : TS :=
    (tRet (tMake C (spInit C Z) [] E0 (tCons (tCB rAbs1 (tCons (tUn (rFld C "top") (tVar 0)) tNil)) (tCons (tUn (rFld C "bottom") (tVar 0)) tNil))))
section
variable {P0 : Program} {K : PySem.W.Frag} {mg : Str → Option Value} {C Z D BN PC VA BP f_place : Addr}
theorem Bd.okL {a b : Int} (h : Bd 40000 a) (h' : Bd 40000 b) : IntMulOk a b := mul_wide h h' (by decide) (by decide) (by decide)
theorem pure_mulw (vs : List V) (H : Hp) (Q : VK) (E : XK) (h : spMulW C vs H Q E) : t_mulw P0 K mg C Z D BN PC VA BP f_place E { nx := fun _ H' => Q .non H', rt := Q } (start ["self", "other"] vs) H := by
  obtain ⟨p, v, t, b, u, c, rfl, ⟨dx, hp⟩, hv, l1, l2, bt, bb, bu, bc, g, k⟩ := h
  have nb := l1.nz
  have nc := l2.nz
  show t_mulw P0 K mg C Z D BN PC VA BP f_place E _ [some (.ref p), some v] H
  unfold t_mulw
  cases hv with
  | int u =>
    simp only [x_seq, x_if, x_test, x_B, x_op, x_un, x_varS, x_var0, x_c, x_I0, x_I, x_U, x_bl, x_ret, x_next, x_eqS, x_neS, x_m0, x_m1, x_isStr, x_SM, x_addT, x_slS, x_lenS, x_strI, x_mulS, x_startT, x_findT, x_preT, x_lstT, x_ascT, x_digT, x_jn, x_js0, x_js1, x_isS, x_fmt, x_fmtS, x_divW, x_truK, x_truS, x_raiseT, x_asg, x_name, x_set0, x_setS, x_drop, x_cb, x_cons, x_nil, x_int1, x_abs1, x_max2, x_gcd, x_gsub, x_sl, x_part, x_nopart, x_int, x_call, x_lst, x_tup, x_not, x_and, x_or, x_andV, x_orV, x_notV, x_ifE, x_eqI, x_neI, x_eqB, x_neB, x_tbm, x_never, x_make, x_meth, x_isII, x_isIC, x_bool1, decide_eq_true_eq, Bool.false_eq_true, if_false, if_true, List.append_nil, List.nil_append, List.cons_append, x_top hp, x_bot hp, if_true]
    rw [Int.mul_one] at k g
    exact ⟨bt.okL bu, fun q d n1 n2 n3 => make_nzG g nb k n1 n2 n3⟩
  | rat hq =>
    obtain ⟨dy, hq⟩ := hq
    simp only [x_seq, x_if, x_test, x_B, x_op, x_un, x_varS, x_var0, x_c, x_I0, x_I, x_U, x_bl, x_ret, x_next, x_eqS, x_neS, x_m0, x_m1, x_isStr, x_SM, x_addT, x_slS, x_lenS, x_strI, x_mulS, x_startT, x_findT, x_preT, x_lstT, x_ascT, x_digT, x_jn, x_js0, x_js1, x_isS, x_fmt, x_fmtS, x_divW, x_truK, x_truS, x_raiseT, x_asg, x_name, x_set0, x_setS, x_drop, x_cb, x_cons, x_nil, x_int1, x_abs1, x_max2, x_gcd, x_gsub, x_sl, x_part, x_nopart, x_int, x_call, x_lst, x_tup, x_not, x_and, x_or, x_andV, x_orV, x_notV, x_ifE, x_eqI, x_neI, x_eqB, x_neB, x_tbm, x_never, x_make, x_meth, x_isII, x_isIC, x_bool1, decide_eq_true_eq, Bool.false_eq_true, if_false, if_true, List.append_nil, List.nil_append, List.cons_append, x_top hp, x_bot hp, x_top hq, x_bot hq, x_isRI hq, x_isRC hq, if_true, Bool.false_eq_true, if_false, Bool.not_true]
    exact ⟨bt.okL bu, bb.okL bc, fun q d n1 n2 n3 => make_nzG g (Int.mul_ne_zero nb nc) k n1 n2 n3⟩
theorem pure_rmulw (vs : List V) (H : Hp) (Q : VK) (E : XK) (h : spRmulW C vs H Q E) : t_rmulw P0 K mg C Z D BN PC VA BP f_place E { nx := fun _ H' => Q .non H', rt := Q } (start ["self", "other"] vs) H := by
  obtain ⟨p, t, b, u, rfl, hr, l1, bt, bb, bu, k⟩ := h
  show t_rmulw P0 K mg C Z D BN PC VA BP f_place E _ [some (.ref p), some (.int u)] H
  unfold t_rmulw
  obtain ⟨dx, hp⟩ := id hr
  simp only [x_seq, x_if, x_test, x_B, x_op, x_un, x_varS, x_var0, x_c, x_I0, x_I, x_U, x_bl, x_ret, x_next, x_eqS, x_neS, x_m0, x_m1, x_isStr, x_SM, x_addT, x_slS, x_lenS, x_strI, x_mulS, x_startT, x_findT, x_preT, x_lstT, x_ascT, x_digT, x_jn, x_js0, x_js1, x_isS, x_fmt, x_fmtS, x_divW, x_truK, x_truS, x_raiseT, x_asg, x_name, x_set0, x_setS, x_drop, x_cb, x_cons, x_nil, x_int1, x_abs1, x_max2, x_gcd, x_gsub, x_sl, x_part, x_nopart, x_int, x_call, x_lst, x_tup, x_not, x_and, x_or, x_andV, x_orV, x_notV, x_ifE, x_eqI, x_neI, x_eqB, x_neB, x_tbm, x_never, x_make, x_meth, x_isII, x_isIC, x_bool1, decide_eq_true_eq, Bool.false_eq_true, if_false, if_true, List.append_nil, List.nil_append, List.cons_append, x_ownI hp]
  refine ⟨p, _, t, b, u, 1, rfl, hr, .int u, l1, .int, bt.mono (by decide), bb.mono (by decide), bu.mono (by decide), .one (by decide), ?_, k⟩
  have nb := l1.nz
  refine Nat.lt_of_le_of_lt (Nat.gcd_le_right _ (by have := Int.mul_ne_zero nb (show (1 : Int) ≠ 0 by decide); omega)) ?_
  rw [Int.mul_one]
  exact bb.mono (by decide)
theorem pure_absw (vs : List V) (H : Hp) (Q : VK) (E : XK) (h : spAbsW C vs H Q E) : t_absw P0 K mg C Z D BN PC VA BP f_place E { nx := fun _ H' => Q .non H', rt := Q } (start ["self"] vs) H := by
  obtain ⟨p, t, b, rfl, ⟨dx, hp⟩, l1, k⟩ := h
  show t_absw P0 K mg C Z D BN PC VA BP f_place E _ [some (.ref p)] H
  unfold t_absw
  simp only [x_seq, x_if, x_test, x_B, x_op, x_un, x_varS, x_var0, x_c, x_I0, x_I, x_U, x_bl, x_ret, x_next, x_eqS, x_neS, x_m0, x_m1, x_isStr, x_SM, x_addT, x_slS, x_lenS, x_strI, x_mulS, x_startT, x_findT, x_preT, x_lstT, x_ascT, x_digT, x_jn, x_js0, x_js1, x_isS, x_fmt, x_fmtS, x_divW, x_truK, x_truS, x_raiseT, x_asg, x_name, x_set0, x_setS, x_drop, x_cb, x_cons, x_nil, x_int1, x_abs1, x_max2, x_gcd, x_gsub, x_sl, x_part, x_nopart, x_int, x_call, x_lst, x_tup, x_not, x_and, x_or, x_andV, x_orV, x_notV, x_ifE, x_eqI, x_neI, x_eqB, x_neB, x_tbm, x_never, x_make, x_meth, x_isII, x_isIC, x_bool1, decide_eq_true_eq, Bool.false_eq_true, if_false, if_true, List.append_nil, List.nil_append, List.cons_append, x_top hp, x_bot hp]
  refine fun q d n1 n2 n3 => make_nzG ?_ l1.nz k n1 n2 n3
  have : (if t < 0 then -t else t).natAbs = t.natAbs := by split <;> omega
  rw [this, l1.cop]
  exact Nat.one_lt_two_pow (by decide)
end
/-! ### == -/
theorem fn_imp {P : Program} {w : World} {K : PySem.W.Frag} {mg : Str → Option Value} {base : Heap} {CX : CXT} {k : Nat} {f : Addr} {fd : FuncData} {ps : List Str} {sp sp' : Sp} (F : FnOk P w K mg base CX k f fd ps sp) (h : ∀ vs H Q E, sp' vs H Q E → sp vs H Q E) : FnOk P w K mg base CX k f fd ps sp' :=
  ⟨fun vs H Q E q => F.len vs H Q E (h vs H Q E q), fun A outer s H args us vs Q E room e0 b r q => F.run A outer s H args us vs Q E room e0 b r (h vs H Q E q)⟩
/-- two ratios that are the same number -/
def SameRat (C : Addr) (a b : Addr) (H : Hp) : Prop := ∃ t c, RatAt C H a t c ∧ RatAt C H b t c ∧ Low t c
theorem sameRat_eq {C : Addr} (vs : List V) (H : Hp) (Q : VK) (E : XK) (h : L2.spEq (SameRat C) vs H Q E) : SpX.spEq C vs H Q E := by
  obtain ⟨a, b, rfl, ⟨t, c, h1, h2, l⟩, k⟩ := h
  refine ⟨a, .ref b, t, c, t, c, rfl, h1, .rat h2, l, l, ?_⟩
  rw [decide_eq_true rfl]
  exact k H (fun _ _ e => e)
def DItem (K : PySem.W.Frag) (C : Addr) : Eqv := fun x y H => DTup K DFlat x y H ∨ DIns C (SameRat C) x y H
def DTerms (K : PySem.W.Frag) (C : Addr) : Eqv := DList (DTup K (DItem K C))
theorem mon_item {K : PySem.W.Frag} {C : Addr} : Mon (DItem K C) := Mon.or (mon_tup mon_flat) (mon_ins fun a b H H' e ⟨t, c, h1, h2, l⟩ => ⟨t, c, h1.same e, h2.same e, l⟩)
theorem rcTerms {X : Cx} {CX : CXT} {C : Addr} {k : Nat} {f : Addr} {fd : FuncData} {ps : List Str} (F : FnOk X.prog X.w X.K X.mg X.base CX0 k f fd ps (SpX.spEq C)) (hs : PySem.W.findIn X.K (.ref C) "__eq__" = some (some (.ref f)))
    (hf : PySem.W.isFn X.K (.ref f) = true) (hb : Binds X.K fd ps []) : RcG X (k + 3) (DTerms X.K C) := by
  have e1 : EqG X (k + 1) (DIns C (SameRat C)) := (eqG_ins (E := E0) (fn_imp F sameRat_eq) hs hf hb pass0).mono (Nat.le_succ k)
  have e2 : EqG X (k + 1) (DTup X.K DFlat) := (eqG_tup mon_flat eqG_flat).mono (Nat.succ_le_succ (Nat.zero_le k))
  exact rcG_list (mon_tup mon_item) (eqG_tup mon_item (e2.or e1))
end SpX

set_option Elab.async false
set_option linter.all false
set_option maxRecDepth 100000
set_option maxHeartbeats 2000000
/-! k65: the terms of a polynomial, == of polynomials. -/
namespace SpX
open PySem PySem.Spec NumText L2 StX RZ
/-- a list of one term: l → q → (e, r) -/
structure Term1 (C : Addr) (H : Hp) (l q e r : Addr) (es : List Int) (t b : Int) : Prop where
  l : H l = some (.lst [.ref q])
  q : H q = some (.tup [.ref e, .ref r])
  e : ExpAt H e es
  r : RatAt C H r t b
theorem Term1.same {C : Addr} {H H' : Hp} {l q e r : Addr} {es : List Int} {t b : Int} (h : Term1 C H l q e r es t b) (s : Same H H') : Term1 C H' l q e r es t b := ⟨s _ _ h.l, s _ _ h.q, s _ _ h.e, h.r.same s⟩
def spTerms (C PC : Addr) : Sp := fun vs H Q _ => ∃ (p : Addr) (es : List Int) (t b : Int), vs = [.ref p] ∧ PolyAt C PC H p es t b ∧ ∀ l q e r H', Term1 C H' l q e r es t b → Same H H' → Q (.ref l) H'
def spPEq (C PC : Addr) : Sp := fun vs H Q _ => ∃ (p p' : Addr) (es : List Int) (t b : Int), vs = [.ref p, .ref p'] ∧ PolyAt C PC H p es t b ∧ PolyAt C PC H p' es t b ∧ Low t b ∧ ∀ H', Same H H' → Q (.bl true) H'
def t_pterms (P : Program) (K : PySem.W.Frag) (mg : Str → Option Value) (C Z D BN PC VA BP f_place : Addr) (E : XK) : TS :=
    (tRet (tCB rListA (tCons (tUn (rFld PC "_pairs") (tVar 0)) tNil)))
def t_peq (P : Program) (K : PySem.W.Frag) (mg : Str → Option Value) (C Z D BN PC VA BP f_place : Addr) (E : XK) : TS :=
    (tRet (tAndV (tCB (rIsA PC) (tCons (tVar 1) (tCons (tC (.ref PC)) tNil))) (tAndV (tOp rEq (tUn (rFld PC "dimension") (tVar 0)) (tUn (rFld PC "dimension") (tVar 1))) (tOp (rEqG (DTerms K C)) (tMeth PC "terms" (spTerms C PC) [] E0 (tVar 0) tNil) (tMeth PC "terms" (spTerms C PC) [] E0 (tVar 1) tNil)))))
section
variable {P0 : Program} {K : PySem.W.Frag} {mg : Str → Option Value} {C Z D BN PC VA BP f_place : Addr}
theorem x_pdim {A : Addr} {p dx : Addr} {n l d : V} {H : Hp} {Q : VK} (h : H p = some (.ins A dx [("dimension", n), ("_pairs", l), ("_numbers", d)])) : rFld A "dimension" (.ref p) H Q = Q n H := propext ⟨fun ⟨_, _, _, _, e1, e2, e3, q⟩ => by
  cases e1
  rw [h] at e2
  cases e2
  cases e3
  exact q, fun q => ⟨p, dx, _, _, rfl, h, rfl, q⟩⟩
theorem x_ppairs {A : Addr} {p dx : Addr} {n l d : V} {H : Hp} {Q : VK} (h : H p = some (.ins A dx [("dimension", n), ("_pairs", l), ("_numbers", d)])) : rFld A "_pairs" (.ref p) H Q = Q l H := propext ⟨fun ⟨_, _, _, _, e1, e2, e3, q⟩ => by
  cases e1
  rw [h] at e2
  cases e2
  cases e3
  exact q, fun q => ⟨p, dx, _, _, rfl, h, rfl, q⟩⟩
theorem pure_pterms (vs : List V) (H : Hp) (Q : VK) (E : XK) (h : spTerms C PC vs H Q E) : t_pterms P0 K mg C Z D BN PC VA BP f_place E { nx := fun _ H' => Q .non H', rt := Q } (start ["self"] vs) H := by
  obtain ⟨p, es, t, b, rfl, ⟨dx, l, q, e, r, d, h1, h2, h3, h4, h5⟩, k⟩ := h
  show t_pterms P0 K mg C Z D BN PC VA BP f_place E _ [some (.ref p)] H
  unfold t_pterms
  simp only [x_seq, x_if, x_test, x_B, x_op, x_un, x_varS, x_var0, x_c, x_I0, x_I, x_U, x_bl, x_ret, x_next, x_eqS, x_neS, x_m0, x_m1, x_isStr, x_SM, x_addT, x_slS, x_lenS, x_strI, x_mulS, x_startT, x_findT, x_preT, x_lstT, x_ascT, x_digT, x_jn, x_js0, x_js1, x_isS, x_fmt, x_fmtS, x_divW, x_truK, x_truS, x_raiseT, x_asg, x_name, x_set0, x_setS, x_drop, x_cb, x_cons, x_nil, x_int1, x_abs1, x_max2, x_gcd, x_gsub, x_sl, x_part, x_nopart, x_int, x_call, x_lst, x_tup, x_not, x_and, x_or, x_andV, x_orV, x_notV, x_ifE, x_eqI, x_neI, x_eqB, x_neB, x_tbm, x_never, x_make, x_meth, x_isII, x_isIC, x_bool1, decide_eq_true_eq, Bool.false_eq_true, if_false, if_true, List.append_nil, List.nil_append, List.cons_append, x_ppairs h1, x_listA h2]
  intro m hm
  have s : Same H (upd H m (.lst [.ref q])) := Same.new hm
  exact k m q e r _ ⟨upd_same, s _ _ h3, s _ _ h4, h5.same s⟩ s
theorem prs1 {D : Eqv} {x y : V} {H : Hp} (h : D x y H) : Prs D [x] [y] H := .cons h .nil
theorem flat_ints {H : Hp} : ∀ es : List Int, Prs DFlat (es.map V.int) (es.map V.int) H
  | [] => .nil
  | n :: r => .cons ⟨rfl, rfl, by simp [eqV]⟩ (flat_ints r)
theorem pure_peq (vs : List V) (H : Hp) (Q : VK) (E : XK) (h : spPEq C PC vs H Q E) : t_peq P0 K mg C Z D BN PC VA BP f_place E { nx := fun _ H' => Q .non H', rt := Q } (start ["self", "other"] vs) H := by
  obtain ⟨p, p', es, t, b, rfl, h, h', low, k⟩ := h
  show t_peq P0 K mg C Z D BN PC VA BP f_place E _ [some (.ref p), some (.ref p')] H
  obtain ⟨dx, l, q, e, r, d, h1, h2, h3, h4, h5⟩ := id h
  obtain ⟨dx', l', q', e', r', d', g1, g2, g3, g4, g5⟩ := id h'
  unfold t_peq
  simp only [x_seq, x_if, x_test, x_B, x_op, x_un, x_varS, x_var0, x_c, x_I0, x_I, x_U, x_bl, x_ret, x_next, x_eqS, x_neS, x_m0, x_m1, x_isStr, x_SM, x_addT, x_slS, x_lenS, x_strI, x_mulS, x_startT, x_findT, x_preT, x_lstT, x_ascT, x_digT, x_jn, x_js0, x_js1, x_isS, x_fmt, x_fmtS, x_divW, x_truK, x_truS, x_raiseT, x_asg, x_name, x_set0, x_setS, x_drop, x_cb, x_cons, x_nil, x_int1, x_abs1, x_max2, x_gcd, x_gsub, x_sl, x_part, x_nopart, x_int, x_call, x_lst, x_tup, x_not, x_and, x_or, x_andV, x_orV, x_notV, x_ifE, x_eqI, x_neI, x_eqB, x_neB, x_tbm, x_never, x_make, x_meth, x_isII, x_isIC, x_bool1, decide_eq_true_eq, Bool.false_eq_true, if_false, if_true, List.append_nil, List.nil_append, List.cons_append, x_isRC g1, x_pdim h1, x_pdim g1, decide_true]
  refine ⟨p, dx, _, rfl, h1, rfl, p, es, t, b, rfl, h, fun m m1 m2 m3 H1 a1 s1 => ?_⟩
  try simp only [x_seq, x_if, x_test, x_B, x_op, x_un, x_varS, x_var0, x_c, x_I0, x_I, x_U, x_bl, x_ret, x_next, x_eqS, x_neS, x_m0, x_m1, x_isStr, x_SM, x_addT, x_slS, x_lenS, x_strI, x_mulS, x_startT, x_findT, x_preT, x_lstT, x_ascT, x_digT, x_jn, x_js0, x_js1, x_isS, x_fmt, x_fmtS, x_divW, x_truK, x_truS, x_raiseT, x_asg, x_name, x_set0, x_setS, x_drop, x_cb, x_cons, x_nil, x_int1, x_abs1, x_max2, x_gcd, x_gsub, x_sl, x_part, x_nopart, x_int, x_call, x_lst, x_tup, x_not, x_and, x_or, x_andV, x_orV, x_notV, x_ifE, x_eqI, x_neI, x_eqB, x_neB, x_tbm, x_never, x_make, x_meth, x_isII, x_isIC, x_bool1, decide_eq_true_eq, Bool.false_eq_true, if_false, if_true, List.append_nil, List.nil_append, List.cons_append]
  refine ⟨p', dx', _, rfl, s1 _ _ g1, rfl, p', es, t, b, rfl, h'.same s1, fun n n1 n2 n3 H2 a2 s2 => ?_⟩
  have a1 := a1.same s2
  refine ⟨⟨m, n, _, _, rfl, rfl, a1.l, a2.l, prs1 ⟨m1, n1, _, _, rfl, rfl, SqT.at a1.q, SqT.at a2.q, .cons (.inl ⟨m2, n2, _, _, rfl, rfl, SqT.at a1.e, SqT.at a2.e, flat_ints es⟩) (prs1 (.inr ?_))⟩⟩, fun H3 s3 => k H3 ((s1.trans s2).trans s3)⟩
  obtain ⟨x1, y1⟩ := id a1.r
  obtain ⟨x2, y2⟩ := id a2.r
  exact ⟨m3, n3, x1, x2, _, _, rfl, rfl, y1, y2, t, b, a1.r, a2.r, low⟩
end
end SpX

set_option Elab.async false
set_option linter.all false
set_option maxRecDepth 100000
set_option maxHeartbeats 2000000
/-! k65: monomials and polynomials of one term as texts. -/
namespace SpX
open PySem PySem.Spec NumText L2 StX RZ
open TL (tl)
/-! ### texts -/
/-- the word of the k-th variable with the exponent e -/
def wd (k : Nat) (e : Int) : List (List Nat) := if e = 1 then [[120 + k]] else if 1 < e then [[120 + k] ++ ([94] ++ numD e.natAbs)] else []
def preD (es : List Int) (n : Nat) : List (List Nat) := ((List.range n).map fun k => wd k (es.getD k 0)).flatten
theorem preD_succ (es : List Int) (n : Nat) : preD es (n + 1) = preD es n ++ wd n (es.getD n 0) := by
  unfold preD
  rw [List.range_succ, List.map_append, List.flatten_append]
  simp
def wordsD (es : List Int) : List (List Nat) := preD es es.length
def letD (es : List Int) : List Nat := TL.joinL [32] (wordsD es)
def partsD (t b : Int) (es : List Int) : List (List Nat) := (if t = 1 ∧ b = 1 then [] else [written t b]) ++ wordsD es
def polyD (t b : Int) (es : List Int) : List Nat := (if t < 0 then [45] else []) ++ TL.joinL [32] (partsD t.natAbs b es)
/-! ### a loop over two tuples, to the end of the shorter one -/
theorem for_zipM {K : PySem.W.Frag} {a b : Addr} {xs ys : List V} {g : TG} {tb : TS} {D : Ends} {σ : L2.St} {H : Hp} (Pv : Nat → L2.St → Hp → Prop) (h0 : Pv 0 σ H) (hq : ∀ i σ H, Pv i σ H → SqT K H a xs ∧ SqT K H b ys)
    (hs : ∀ (i : Nat) (x y : V) (T : Addr) (σ : L2.St) (H : Hp), xs[i]? = some x → ys[i]? = some y → Pv i σ H → H T = none → g (.ref T) σ (upd H T (.tup [x, y])) fun σ2 H2 => tb { D with nx := Pv (i + 1), ct := Pv (i + 1), bk := D.nx } σ2 H2) (hd : ∀ σ H, Pv (min xs.length ys.length) σ H → D.nx σ H) :
    ∃ W : Nat → Nat → L2.St → Hp → Prop, (∃ m, W 0 m σ H) ∧ ∀ i m σ H, W i m σ H →
      ((ItzT K a b).stop i H ∧ D.nx σ H) ∨ ((ItzT K a b).go i H ∧ ∃ N : L2.St → Hp → Prop, (∀ σ' H', N σ' H' → ∃ m', m' < m ∧ W (i + 1) m' σ' H') ∧ ∀ v H', (ItzT K a b).yld i H v H' → g v σ H' fun σ2 H2 => tb { D with nx := N, ct := N, bk := D.nx } σ2 H2) := by
  refine ⟨fun i m σ H => m = min xs.length ys.length - i ∧ i ≤ min xs.length ys.length ∧ Pv i σ H, ⟨_, rfl, Nat.zero_le _, h0⟩, ?_⟩
  rintro i m σ1 H1 ⟨rfl, le, pv⟩
  have sq := hq i σ1 H1 pv
  rcases Nat.lt_or_ge i (min xs.length ys.length) with lt | ge
  · have l1 : i < xs.length := by omega
    have l2 : i < ys.length := by omega
    refine .inr ⟨⟨xs, ys, _, _, sq.1, sq.2, List.getElem?_eq_getElem l1, List.getElem?_eq_getElem l2⟩, Pv (i + 1), fun σ2 H2 p2 => ⟨_, by omega, rfl, lt, p2⟩, fun v H2 hy => ?_⟩
    obtain ⟨T, x, y, rfl, hT, rfl, fx, fy⟩ := hy
    exact hs i x y T σ1 H1 (fx xs sq.1) (fy ys sq.2) pv hT
  · refine .inl ⟨⟨xs, ys, sq.1, sq.2, ?_⟩, hd _ _ ?_⟩
    · omega
    · have : i = min xs.length ys.length := by omega
      rw [← this]
      exact pv
theorem for_zipC {K : PySem.W.Frag} {ta : TA} {a b : Addr} {xs ys : List V} {g : TG} {tb : TS} {D : Ends} {σ : L2.St} {H : Hp} (hv : ∀ QA : List V → Hp → Prop, ta σ H QA = QA [.ref a, .ref b] H) (Pv : Nat → L2.St → Hp → Prop) (h0 : Pv 0 σ H) (hq : ∀ i σ H, Pv i σ H → SqT K H a xs ∧ SqT K H b ys)
    (hs : ∀ (i : Nat) (x y : V) (T : Addr) (σ : L2.St) (H : Hp), xs[i]? = some x → ys[i]? = some y → Pv i σ H → H T = none → g (.ref T) σ (upd H T (.tup [x, y])) fun σ2 H2 => tb { D with nx := Pv (i + 1), ct := Pv (i + 1), bk := D.nx } σ2 H2) (hd : ∀ σ H, Pv (min xs.length ys.length) σ H → D.nx σ H) :
    tFor (iZipA K ta) g tb D σ H := by
  show ta σ H _
  rw [hv]
  exact ⟨a, b, xs, ys, rfl, .inr ⟨(hq 0 σ H h0).1, (hq 0 σ H h0).2, for_zipM Pv h0 hq hs hd⟩⟩
/-! ### the words of a monomial -/
def spWMon : Sp := fun vs H Q _ => ∃ (e : Addr) (es : List Int), vs = [.ref e] ∧ ExpAt H e es ∧ Exps es ∧ ∀ (y : Str) (H' : Hp), tl y = letD es → Same H H' → Q (.str y) H'
def names3 : List Str := ["x", "y", "z"]
theorem names_tl {i : Nat} {x : V} (h : (names3.map V.str)[i]? = some x) : ∃ y : Str, x = .str y ∧ tl y = [120 + i] ∧ y.length = 1 := by
  match i, h with
  | 0, h => exact ⟨"x", (Option.some.inj h).symm, by decide +kernel, by decide +kernel⟩
  | 1, h => exact ⟨"y", (Option.some.inj h).symm, by decide +kernel, by decide +kernel⟩
  | 2, h => exact ⟨"z", (Option.some.inj h).symm, by decide +kernel, by decide +kernel⟩
  | n + 3, h => simp [names3] at h
theorem sum_nn : ∀ (l : List Int), (∀ y ∈ l, 0 ≤ y) → 0 ≤ l.sum
  | [], _ => by simp
  | a :: l, h => by
    have := h a (by simp)
    have := sum_nn l fun y hy => h y (by simp [hy])
    rw [List.sum_cons]
    omega
theorem sum_ge : ∀ (l : List Int), (∀ y ∈ l, 0 ≤ y) → ∀ y ∈ l, y ≤ l.sum
  | [], _, y, hy => by simp at hy
  | a :: l, h, y, hy => by
    have := h a (by simp)
    have := sum_nn l fun y hy => h y (by simp [hy])
    rw [List.sum_cons]
    rcases List.mem_cons.mp hy with rfl | hy
    · omega
    · have := sum_ge l (fun y hy => h y (by simp [hy])) y hy
      omega
theorem exps_le {es : List Int} (x : Exps es) {i : Nat} {e : Int} (h : es[i]? = some e) : 0 ≤ e ∧ e ≤ 16 := by
  have h0 := x.pos e (List.mem_of_getElem? h)
  have hs := x.sum
  have := sum_ge es x.pos e (List.mem_of_getElem? h)
  omega
theorem sum_len {B : Nat} : ∀ {ys : List Str}, (∀ y ∈ ys, y.length ≤ B) → (ys.map (·.length)).sum ≤ ys.length * B
  | [], _ => by simp
  | y :: r, h => by
    have := sum_len (ys := r) fun z hz => h z (List.mem_cons_of_mem _ hz)
    have := h y List.mem_cons_self
    rw [List.map_cons, List.sum_cons, List.length_cons, Nat.succ_mul]
    omega
def t_pwmon (P : Program) (K : PySem.W.Frag) (mg : Str → Option Value) (C Z D BN PC VA BP f_place : Addr) (E : XK) : TS :=
    (tSeq (tAsg (tLst tNil) (gName 1))
    (tSeq (tFor (iZipA K (tCons (tC (.ref VA)) (tCons (tVar 0) tNil))) (gTup K 2 (gCons (gName 2) (gCons (gName 3) gNil))) ((tIfS (tTest (tOp rEq (tVar 3) (tC (.int 1)))) (tDrop (tBM K "list" rAppend (tVar 1) (tCons (tVar 2) tNil))) (tIfS (tTest (tOp (rI0 fun i j => .bl (decide (j < i))) (tVar 3) (tC (.int 1)))) (tDrop (tBM K "list" rAppend (tVar 1) (tCons (tJn ((tFmt (tVar 2)) :: (tC (.str "^")) :: (tFmt (tVar 3)) :: [])) tNil))) tNext))))
    (tRet (tM1 (rJoinT K) (tC (.str " ")) (tVar 1)))))
section
variable {P0 : Program} {K : PySem.W.Frag} {mg : Str → Option Value} {C Z D BN PC VA BP f_place : Addr}
theorem pure_pwmon (TV : ∀ H : Hp, SqT K H VA (names3.map V.str)) (vs : List V) (H : Hp) (Q : VK) (E : XK) (h : spWMon vs H Q E) : t_pwmon P0 K mg C Z D BN PC VA BP f_place E { nx := fun _ H' => Q .non H', rt := Q } (start ["exponents", "powers", "name", "exponent"] vs) H := by
  obtain ⟨e, es, rfl, he, x, k⟩ := h
  show t_pwmon P0 K mg C Z D BN PC VA BP f_place E _ [some (.ref e), none, none, none] H
  unfold t_pwmon
  rw [x_seq]
  simp only [x_if, x_test, x_B, x_op, x_un, x_varS, x_var0, x_c, x_I0, x_I, x_U, x_bl, x_ret, x_next, x_eqS, x_neS, x_m0, x_m1, x_isStr, x_SM, x_addT, x_slS, x_lenS, x_strI, x_mulS, x_startT, x_findT, x_preT, x_lstT, x_ascT, x_digT, x_jn, x_js0, x_js1, x_isS, x_fmt, x_fmtS, x_divW, x_truK, x_truS, x_raiseT, x_asg, x_name, x_set0, x_setS, x_drop, x_cb, x_cons, x_nil, x_int1, x_abs1, x_max2, x_gcd, x_gsub, x_sl, x_part, x_nopart, x_int, x_call, x_lst, x_tup, x_not, x_and, x_or, x_andV, x_orV, x_notV, x_ifE, x_eqI, x_neI, x_eqB, x_neB, x_tbm, x_never, x_make, x_meth, x_isII, x_isIC, x_bool1, decide_eq_true_eq, Bool.false_eq_true, if_false, if_true, List.append_nil, List.nil_append, List.cons_append]
  refine ⟨by decide, fun w hw => ?_⟩
  rw [x_seq]
  have e0 : (upd H w (.lst [])) w = some (.lst []) := upd_same
  have s0 : Same H (upd H w (.lst [])) := Same.new hw
  generalize upd H w (.lst []) = H0 at e0 s0 ⊢
  refine for_zipC (a := VA) (b := e) (xs := names3.map V.str) (ys := es.map V.int) (fun QA => by simp only [x_seq, x_if, x_test, x_B, x_op, x_un, x_varS, x_var0, x_c, x_I0, x_I, x_U, x_bl, x_ret, x_next, x_eqS, x_neS, x_m0, x_m1, x_isStr, x_SM, x_addT, x_slS, x_lenS, x_strI, x_mulS, x_startT, x_findT, x_preT, x_lstT, x_ascT, x_digT, x_jn, x_js0, x_js1, x_isS, x_fmt, x_fmtS, x_divW, x_truK, x_truS, x_raiseT, x_asg, x_name, x_set0, x_setS, x_drop, x_cb, x_cons, x_nil, x_int1, x_abs1, x_max2, x_gcd, x_gsub, x_sl, x_part, x_nopart, x_int, x_call, x_lst, x_tup, x_not, x_and, x_or, x_andV, x_orV, x_notV, x_ifE, x_eqI, x_neI, x_eqB, x_neB, x_tbm, x_never, x_make, x_meth, x_isII, x_isIC, x_bool1, decide_eq_true_eq, Bool.false_eq_true, if_false, if_true, List.append_nil, List.nil_append, List.cons_append]) (fun i σ H' => ∃ A B, σ = [some (.ref e), some (.ref w), A, B] ∧ ∃ ws : List Str, H' w = some (.lst (ws.map V.str)) ∧ ws.map tl = preD es i ∧ Same H H' ∧ (∀ y ∈ ws, y.length ≤ 100) ∧ ws.length ≤ i) ⟨none, none, rfl, [], e0, rfl, s0, by simp, Nat.le_refl _⟩ (fun i σ H' p => ?_) (fun i y z T σ H' hy hz p hT => ?_) fun σ H' p => ?_
  · obtain ⟨_, _, _, _, _, _, s, _⟩ := p
    exact ⟨TV _, SqT.at (s _ _ he)⟩
  · obtain ⟨A, B, rfl, ws, hws, ht, s, hl, hn⟩ := p
    obtain ⟨nm, rfl, tn, ln⟩ := names_tl hy
    obtain ⟨ex, hex, rfl⟩ := int_at hz
    have le := exps_le x hex
    have ed : es.getD i 0 = ex := by rw [List.getD_eq_getElem?_getD, hex]; rfl
    refine x_tup2 upd_same ?_
    show tIfS _ _ _ _ [some (.ref e), some (.ref w), some (.str nm), some (.int ex)] (upd H' T (.tup [.str nm, .int ex]))
    have hw1 : (upd H' T (.tup [.str nm, .int ex])) w = some (.lst (ws.map V.str)) := by rw [upd_ne (ne_of_none hws hT)]; exact hws
    have s1 : Same H (upd H' T (.tup [.str nm, .int ex])) := Same.new' s hT
    generalize upd H' T (.tup [.str nm, .int ex]) = H1 at hw1 s1 ⊢
    have big : ∀ n : Nat, n ≤ 100000 → n ≤ sizeLine := fun n hn => Nat.le_trans hn (by decide)
    have i3 : i < 3 := by
      have := (List.getElem?_eq_some_iff.mp hex).1
      have := x.three
      omega
    have wl : (ws.map V.str).length < sizeLine := by
      rw [List.length_map]
      exact Nat.lt_of_lt_of_le (show ws.length < 100 by omega) (by decide)
    have put : ∀ (y : Str), tl y ∈ [y].map tl → [tl y] = wd i ex → y.length ≤ 100 → ∃ A B, [some (V.ref e), some (.ref w), some (.str nm), some (.int ex)] = [some (.ref e), some (.ref w), A, B] ∧ ∃ ws2 : List Str, (upd H1 w (.lst (ws.map V.str ++ [.str y]))) w = some (.lst (ws2.map V.str)) ∧ ws2.map tl = preD es (i + 1) ∧ Same H (upd H1 w (.lst (ws.map V.str ++ [.str y]))) ∧ (∀ y ∈ ws2, y.length ≤ 100) ∧ ws2.length ≤ i + 1 := by
      intro y _ hy ly
      refine ⟨_, _, rfl, ws ++ [y], by rw [upd_same, List.map_append]; rfl, by rw [List.map_append, ht, preD_succ, ed, ← hy]; rfl, fun c o hc => ?_, fun u hu => ?_, by rw [List.length_append]; exact Nat.succ_le_succ hn⟩
      · rw [upd_ne (ne_of_none hc hw)]
        exact s1 _ _ hc
      · rcases List.mem_append.mp hu with hu | hu
        · exact hl u hu
        · rw [List.mem_singleton.mp hu]
          exact ly
    simp only [x_seq, x_if, x_test, x_B, x_op, x_un, x_varS, x_var0, x_c, x_I0, x_I, x_U, x_bl, x_ret, x_next, x_eqS, x_neS, x_m0, x_m1, x_isStr, x_SM, x_addT, x_slS, x_lenS, x_strI, x_mulS, x_startT, x_findT, x_preT, x_lstT, x_ascT, x_digT, x_jn, x_js0, x_js1, x_isS, x_fmt, x_fmtS, x_divW, x_truK, x_truS, x_raiseT, x_asg, x_name, x_set0, x_setS, x_drop, x_cb, x_cons, x_nil, x_int1, x_abs1, x_max2, x_gcd, x_gsub, x_sl, x_part, x_nopart, x_int, x_call, x_lst, x_tup, x_not, x_and, x_or, x_andV, x_orV, x_notV, x_ifE, x_eqI, x_neI, x_eqB, x_neB, x_tbm, x_never, x_make, x_meth, x_isII, x_isIC, x_bool1, decide_eq_true_eq, Bool.false_eq_true, if_false, if_true, List.append_nil, List.nil_append, List.cons_append]
    refine ite2 (fun h1 => ?_) fun h1 => ?_
    · refine ⟨ty_lst hw1, ?_⟩
      rw [x_append hw1 wl]
      exact put nm (by simp) (by rw [tn]; unfold wd; rw [if_pos (by simpa using h1)]) (by omega)
    · have n1 : ex ≠ 1 := by simpa using h1
      refine ite2 (fun h2 => ?_) fun h2 => ?_
      · refine ⟨ty_lst hw1, ?_⟩
        have te : tl (Str.empty ++ nm ++ "^" ++ Str.ofString (toString ex)) = [120 + i] ++ ([94] ++ numD ex.natAbs) := by
          rw [TL.tl_append, TL.tl_append, TL.tl_append, tl_empty, tn, tl_int, int_pos (by omega), List.nil_append, List.append_assoc]
          rfl
        have be : Bd 900 ex := .lit _ le.1 (by omega) (by decide)
        have ll := intD_len be
        rw [int_pos (by omega)] at ll
        have l1 : (Str.empty ++ nm).length ≤ 10 := by rw [tl_len, TL.tl_append, tl_empty, tn]; simp
        have l2 : (Str.empty ++ nm ++ Str.ofString "^").length ≤ 10 := by rw [tl_len, TL.tl_append, TL.tl_append, tl_empty, tn, show tl (Str.ofString "^") = [94] from by decide +kernel]; simp
        have e16 : (numD ex.natAbs).length ≤ 2 := num_len (k := 2) (by decide) (by omega)
        have l3 : (Str.empty ++ nm ++ Str.ofString "^" ++ Str.ofString (toString ex)).length ≤ 10 := by rw [tl_len]; show (tl (Str.empty ++ nm ++ "^" ++ Str.ofString (toString ex))).length ≤ 10; rw [te]; simp; omega
        refine .inl ⟨big _ (by omega), big _ (by omega), big _ (by omega), .inr ⟨log1920 be, big _ (by omega), ?_⟩⟩
        rw [x_append hw1 wl]
        refine put _ (by simp) ?_ (by omega)
        show [tl (Str.empty ++ nm ++ "^" ++ Str.ofString (toString ex))] = _
        rw [te]
        unfold wd
        rw [if_neg n1, if_pos h2]
      · refine ⟨_, _, rfl, ws, hw1, ?_, s1, hl, by omega⟩
        rw [ht, preD_succ, ed]
        unfold wd
        rw [if_neg n1, if_neg (by omega), List.append_nil]
  · obtain ⟨A, B, rfl, ws, hws, ht, s, hl, hn⟩ := p
    have em : min (names3.map V.str).length (es.map V.int).length = es.length := by
      have := x.three
      simp [names3]
      omega
    rw [em] at ht
    show tRet (tM1 (rJoinT K) (tC (.str " ")) (tVar 1)) _ [some (.ref e), some (.ref w), A, B] H'
    simp only [x_seq, x_if, x_test, x_B, x_op, x_un, x_varS, x_var0, x_c, x_I0, x_I, x_U, x_bl, x_ret, x_next, x_eqS, x_neS, x_m0, x_m1, x_isStr, x_SM, x_addT, x_slS, x_lenS, x_strI, x_mulS, x_startT, x_findT, x_preT, x_lstT, x_ascT, x_digT, x_jn, x_js0, x_js1, x_isS, x_fmt, x_fmtS, x_divW, x_truK, x_truS, x_raiseT, x_asg, x_name, x_set0, x_setS, x_drop, x_cb, x_cons, x_nil, x_int1, x_abs1, x_max2, x_gcd, x_gsub, x_sl, x_part, x_nopart, x_int, x_call, x_lst, x_tup, x_not, x_and, x_or, x_andV, x_orV, x_notV, x_ifE, x_eqI, x_neI, x_eqB, x_neB, x_tbm, x_never, x_make, x_meth, x_isII, x_isIC, x_bool1, decide_eq_true_eq, Bool.false_eq_true, if_false, if_true, List.append_nil, List.nil_append, List.cons_append]
    have tj : tl (Txt.join " " ws) = letD es := by
      rw [TL.join_eq, TL.tl_join, ht]
      rfl
    have l3 : ws.length ≤ 3 := by simp [names3] at hn; omega
    have ls : (" " : Str).length = 1 := by decide +kernel
    refine ⟨_, w, ws, rfl, rfl, .inl (SqL.at hws), ?_, k _ H' tj s⟩
    have := sum_len hl
    rw [ls]
    omega
end
end SpX

set_option Elab.async false
set_option linter.all false
set_option maxRecDepth 100000
set_option maxHeartbeats 2000000
/-! k65: polynomials of one term as texts. -/
namespace SpX
open PySem PySem.Spec NumText L2 StX RZ
open TL (tl)
def sizeD (t b : Int) (m : List Nat) : List Nat := if t = 1 ∧ b = 1 then m else written t b ++ ([32] ++ m)
def spWSize (C : Addr) : Sp := fun vs H Q _ => ∃ (r : Addr) (mon : Str) (t b : Int), vs = [.ref r, .str mon] ∧ RatAt C H r t b ∧ Low t b ∧ Bd 17999 t ∧ Bd 17999 b ∧ tl mon ≠ [] ∧ mon.length ≤ 1000 ∧ ∀ (y : Str) (H' : Hp), tl y = sizeD t b (tl mon) → y.length ≤ 20000 → Same H H' → Q (.str y) H'
/-- what the joined pieces are -/
def spPieces (C : Addr) : Sp := fun vs H Q _ => ∃ (l q e r : Addr) (es : List Int) (t b : Int), vs = [.ref l] ∧ Term1 C H l q e r es t b ∧ Exps es ∧ letD es ≠ [] ∧ (letD es).length ≤ 1000 ∧ Low t b ∧ t ≠ 0 ∧ Bd 17999 t ∧ Bd 17999 b ∧ ∀ (w : Addr) (ws : List Str) (H' : Hp), H' w = some (.lst (ws.map V.str)) → ws.length ≤ 2 → (∀ y ∈ ws, y.length ≤ 20000) → (ws.map tl).flatten = (if t < 0 then [45] else []) ++ sizeD t.natAbs b (letD es) → Same H H' → Q (.ref w) H'
def spPStr (C PC : Addr) : Sp := fun vs H Q _ => ∃ (p : Addr) (es : List Int) (t b : Int), vs = [.ref p] ∧ PolyAt C PC H p es t b ∧ Exps es ∧ letD es ≠ [] ∧ (letD es).length ≤ 1000 ∧ Low t b ∧ t ≠ 0 ∧ Bd 17999 t ∧ Bd 17999 b ∧ ∀ (y : Str) (H' : Hp), tl y = (if t < 0 then [45] else []) ++ sizeD t.natAbs b (letD es) → Same H H' → Q (.str y) H'
def t_pwsize (P : Program) (K : PySem.W.Frag) (mg : Str → Option Value) (C Z D BN PC VA BP f_place : Addr) (E : XK) : TS :=
    (tSeq (tIfS (tTest (tOp rEq (tVar 1) (tC (.str "")))) (tRet (tCB (rOwnStr C (spStr C) E0) (tCons (tVar 0) tNil))) tNext)
    (tRet (tIf (tTest (tOp (rOwnI C (spEq C) E0) (tVar 0) (tC (.int 1)))) (tVar 1) (tJn ((tFmtO C (spStr C) E0 (tVar 0)) :: (tC (.str " ")) :: (tFmt (tVar 1)) :: [])))))
def t_ppieces (P : Program) (K : PySem.W.Frag) (mg : Str → Option Value) (C Z D BN PC VA BP f_place : Addr) (E : XK) : TS :=
    (tSeq (tIfS (tNot (tTruK K (tVar 0))) tNever tNext)
    (tSeq (tAsg (tLst tNil) (gName 1))
    (tSeq (tFor (iList K (tVar 0)) (gTup K 2 (gCons (gName 2) (gCons (gName 3) gNil))) ((tSeq (tAsg (tOp (rI0 fun i j => .bl (decide (i < j))) (tMeth C "sign" (spSign C) [] E0 (tVar 3) tNil) (tC (.int 0))) (gName 4))
    (tSeq (tIfS (tTruK K (tVar 1)) tNever (tIfS (tB (tVar 4)) (tDrop (tBM K "list" rAppend (tVar 1) (tCons (tC (.str "-")) tNil))) tNext))
    (tDrop (tBM K "list" rAppend (tVar 1) (tCons (tCall (spWSize C) [] E0 (tCons (tCB (rOwnAbs C (spAbsW C) E0) (tCons (tVar 3) tNil)) (tCons (tCall spWMon [] E0 (tCons (tVar 2) tNil)) tNil))) tNil)))))))
    (tRet (tVar 1)))))
def t_pstr (P : Program) (K : PySem.W.Frag) (mg : Str → Option Value) (C Z D BN PC VA BP f_place : Addr) (E : XK) : TS :=
    (tRet (tM1 (rJoinT K) (tC (.str "")) (tCall (spPieces C) [] E0 (tCons (tUn (rFld PC "_pairs") (tVar 0)) tNil))))
section
variable {P0 : Program} {K : PySem.W.Frag} {mg : Str → Option Value} {C Z D BN PC VA BP f_place : Addr}
theorem x_fmtO {te : TE} {sp : Sp} {E : XK} {σ : L2.St} {H : Hp} {Q : VK} : tFmtO C sp E te σ H Q = te σ H (fun x H1 => ∃ a dx fs, x = .ref a ∧ H1 a = some (.ins C dx fs) ∧ sp [.ref a] H1 (fun v H' => ∃ y : Str, v = .str y ∧ Q v H') E) := rfl
theorem pure_pwsize (vs : List V) (H : Hp) (Q : VK) (E : XK) (h : spWSize C vs H Q E) : t_pwsize P0 K mg C Z D BN PC VA BP f_place E { nx := fun _ H' => Q .non H', rt := Q } (start ["number", "monomial"] vs) H := by
  obtain ⟨r, mon, t, b, rfl, hr, low, bt, bb, ne, lm, k⟩ := h
  obtain ⟨dx, hp⟩ := id hr
  show t_pwsize P0 K mg C Z D BN PC VA BP f_place E _ [some (.ref r), some (.str mon)] H
  have big : ∀ n : Nat, n ≤ 100000 → n ≤ sizeLine := fun n hn => Nat.le_trans hn (by decide)
  have nm : ¬ mon = "" := fun z => ne (by rw [z]; decide +kernel)
  unfold t_pwsize
  simp only [x_seq, x_if, x_test, x_B, x_op, x_un, x_varS, x_var0, x_c, x_I0, x_I, x_U, x_bl, x_ret, x_next, x_eqS, x_neS, x_m0, x_m1, x_isStr, x_SM, x_addT, x_slS, x_lenS, x_strI, x_mulS, x_startT, x_findT, x_preT, x_lstT, x_ascT, x_digT, x_jn, x_js0, x_js1, x_isS, x_fmt, x_fmtS, x_divW, x_truK, x_truS, x_raiseT, x_asg, x_name, x_set0, x_setS, x_drop, x_cb, x_cons, x_nil, x_int1, x_abs1, x_max2, x_gcd, x_gsub, x_sl, x_part, x_nopart, x_int, x_call, x_lst, x_tup, x_not, x_and, x_or, x_andV, x_orV, x_notV, x_ifE, x_eqI, x_neI, x_eqB, x_neB, x_tbm, x_never, x_make, x_meth, x_isII, x_isIC, x_bool1, decide_eq_true_eq, Bool.false_eq_true, if_false, if_true, List.append_nil, List.nil_append, List.cons_append, x_ownI hp]
  rw [if_neg (by simpa using nm)]
  refine ⟨r, .int 1, t, b, 1, 1, rfl, hr, .int 1, low, .int, ?_⟩
  refine ⟨_, rfl, ?_⟩
  have one : t * 1 = 1 * b ↔ t = 1 ∧ b = 1 := by
    rw [Int.mul_one, Int.one_mul]
    refine ⟨fun e => ?_, fun e => by omega⟩
    have c := low.cop
    have p := low.pos
    rw [e, Nat.gcd_self] at c
    omega
  by_cases h1 : t = 1 ∧ b = 1
  · rw [if_pos (by rw [decide_eq_true_eq]; exact one.mpr h1)]
    exact k _ _ (by unfold sizeD; rw [if_pos h1]) (by omega) fun _ _ e => e
  · rw [if_neg (by rw [decide_eq_true_eq]; exact fun z => h1 (one.mp z))]
    simp only [x_fmtO, x_if, x_test, x_B, x_op, x_un, x_varS, x_var0, x_c, x_I0, x_I, x_U, x_bl, x_ret, x_next, x_eqS, x_neS, x_m0, x_m1, x_isStr, x_SM, x_addT, x_slS, x_lenS, x_strI, x_mulS, x_startT, x_findT, x_preT, x_lstT, x_ascT, x_digT, x_jn, x_js0, x_js1, x_isS, x_fmt, x_fmtS, x_divW, x_truK, x_truS, x_raiseT, x_asg, x_name, x_set0, x_setS, x_drop, x_cb, x_cons, x_nil, x_int1, x_abs1, x_max2, x_gcd, x_gsub, x_sl, x_part, x_nopart, x_int, x_call, x_lst, x_tup, x_not, x_and, x_or, x_andV, x_orV, x_notV, x_ifE, x_eqI, x_neI, x_eqB, x_neB, x_tbm, x_never, x_make, x_meth, x_isII, x_isIC, x_bool1, decide_eq_true_eq, Bool.false_eq_true, if_false, if_true, List.append_nil, List.nil_append, List.cons_append]
    refine ⟨r, dx, _, rfl, hp, r, t, b, rfl, hr, low.pos, bt, bb, fun y H1 hy s1 => ⟨y, rfl, ?_⟩⟩
    have ly : (tl y).length ≤ 12010 := by
      rw [hy]
      unfold written
      have := num_len' (n := t.natAbs) (k := 6000) (by decide) (Nat.lt_of_lt_of_le bt (Nat.pow_le_pow_right (by decide) (by decide)))
      have := num_len' (n := b.natAbs) (k := 6000) (by decide) (Nat.lt_of_lt_of_le bb (Nat.pow_le_pow_right (by decide) (by decide)))
      rw [List.length_append, List.length_append]
      split <;> split <;> simp <;> omega
    have tsp : tl (Str.ofString " ") = [32] := by decide +kernel
    have te : tl (Str.empty ++ y ++ Str.ofString " " ++ mon) = sizeD t b (tl mon) := by
      unfold sizeD
      rw [if_neg h1, TL.tl_append, TL.tl_append, TL.tl_append, tl_empty, tsp, hy, List.nil_append, List.append_assoc]
    have l1 : (Str.empty ++ y).length ≤ 12010 := by rw [tl_len, TL.tl_append, tl_empty]; exact ly
    have l2 : (Str.empty ++ y ++ Str.ofString " ").length ≤ 12011 := by rw [tl_len, TL.tl_append, TL.tl_append, tl_empty, tsp]; simp; omega
    have l3 : (Str.empty ++ y ++ Str.ofString " " ++ mon).length ≤ 13011 := by
      rw [tl_len, TL.tl_append, TL.tl_append, TL.tl_append, tl_empty, tsp]
      have := tl_len mon
      simp only [List.length_append, List.nil_append, List.length_cons, List.length_nil]
      omega
    exact ⟨y, rfl, big _ (by omega), big _ (by omega), .inl ⟨big _ (by omega), big _ (by omega), k _ _ te (by omega) s1⟩⟩
theorem drop_append {A0 A2 A3 A4 : Option V} {w : Addr} {xs : List V} {v : V} {D : Ends} {H : Hp} (h : H w = some (.lst xs)) (hl : xs.length < sizeLine) (k : D.nx [A0, some (.ref w), A2, A3, A4] (upd H w (.lst (xs ++ [v])))) :
    tDrop (tBM K "list" rAppend (tVar 1) (tCons (tC v) tNil)) D [A0, some (.ref w), A2, A3, A4] H := by
  simp only [x_seq, x_if, x_test, x_B, x_op, x_un, x_varS, x_var0, x_c, x_I0, x_I, x_U, x_bl, x_ret, x_next, x_eqS, x_neS, x_m0, x_m1, x_isStr, x_SM, x_addT, x_slS, x_lenS, x_strI, x_mulS, x_startT, x_findT, x_preT, x_lstT, x_ascT, x_digT, x_jn, x_js0, x_js1, x_isS, x_fmt, x_fmtS, x_divW, x_truK, x_truS, x_raiseT, x_asg, x_name, x_set0, x_setS, x_drop, x_cb, x_cons, x_nil, x_int1, x_abs1, x_max2, x_gcd, x_gsub, x_sl, x_part, x_nopart, x_int, x_call, x_lst, x_tup, x_not, x_and, x_or, x_andV, x_orV, x_notV, x_ifE, x_eqI, x_neI, x_eqB, x_neB, x_tbm, x_never, x_make, x_meth, x_isII, x_isIC, x_bool1, decide_eq_true_eq, Bool.false_eq_true, if_false, if_true, List.append_nil, List.nil_append, List.cons_append]
  refine ⟨ty_lst h, ?_⟩
  rw [x_append h hl]
  exact k
theorem pure_ppieces (vs : List V) (H : Hp) (Q : VK) (E : XK) (h : spPieces C vs H Q E) : t_ppieces P0 K mg C Z D BN PC VA BP f_place E { nx := fun _ H' => Q .non H', rt := Q } (start ["terms", "pieces", "exponents", "number", "negative"] vs) H := by
  obtain ⟨l, q, e, r, es, t, b, rfl, h, x, ne, ln, low, nz, bt, bb, k⟩ := h
  show t_ppieces P0 K mg C Z D BN PC VA BP f_place E _ [some (.ref l), none, none, none, none] H
  unfold t_ppieces
  rw [x_seq]
  simp only [x_if, x_not, x_truK, x_varS, x_var0]
  refine ⟨true, tru_lst h.l, ?_⟩
  rw [if_neg (by decide)]
  show tSeq _ _ _ _ H
  rw [x_seq]
  simp only [x_if, x_test, x_B, x_op, x_un, x_varS, x_var0, x_c, x_I0, x_I, x_U, x_bl, x_ret, x_next, x_eqS, x_neS, x_m0, x_m1, x_isStr, x_SM, x_addT, x_slS, x_lenS, x_strI, x_mulS, x_startT, x_findT, x_preT, x_lstT, x_ascT, x_digT, x_jn, x_js0, x_js1, x_isS, x_fmt, x_fmtS, x_divW, x_truK, x_truS, x_raiseT, x_asg, x_name, x_set0, x_setS, x_drop, x_cb, x_cons, x_nil, x_int1, x_abs1, x_max2, x_gcd, x_gsub, x_sl, x_part, x_nopart, x_int, x_call, x_lst, x_tup, x_not, x_and, x_or, x_andV, x_orV, x_notV, x_ifE, x_eqI, x_neI, x_eqB, x_neB, x_tbm, x_never, x_make, x_meth, x_isII, x_isIC, x_bool1, decide_eq_true_eq, Bool.false_eq_true, if_false, if_true, List.append_nil, List.nil_append, List.cons_append]
  refine ⟨by decide, fun w hw => ?_⟩
  have e0 : (upd H w (.lst [])) w = some (.lst []) := upd_same
  have s0 : Same H (upd H w (.lst [])) := Same.new hw
  generalize upd H w (.lst []) = H0 at e0 s0 ⊢
  simp only [x_name, x_setS, x_set0]
  rw [x_seq]
  have a0 := h.same s0
  refine for_lstV (a := l) (xs := [.ref q]) (fun Q => by simp only [x_seq, x_if, x_test, x_B, x_op, x_un, x_varS, x_var0, x_c, x_I0, x_I, x_U, x_bl, x_ret, x_next, x_eqS, x_neS, x_m0, x_m1, x_isStr, x_SM, x_addT, x_slS, x_lenS, x_strI, x_mulS, x_startT, x_findT, x_preT, x_lstT, x_ascT, x_digT, x_jn, x_js0, x_js1, x_isS, x_fmt, x_fmtS, x_divW, x_truK, x_truS, x_raiseT, x_asg, x_name, x_set0, x_setS, x_drop, x_cb, x_cons, x_nil, x_int1, x_abs1, x_max2, x_gcd, x_gsub, x_sl, x_part, x_nopart, x_int, x_call, x_lst, x_tup, x_not, x_and, x_or, x_andV, x_orV, x_notV, x_ifE, x_eqI, x_neI, x_eqB, x_neB, x_tbm, x_never, x_make, x_meth, x_isII, x_isIC, x_bool1, decide_eq_true_eq, Bool.false_eq_true, if_false, if_true, List.append_nil, List.nil_append, List.cons_append]) (fun i σ H' => (i = 0 ∧ σ = [some (.ref l), some (.ref w), none, none, none] ∧ H' = H0) ∨ (i = 1 ∧ (∃ A B C, σ = [some (.ref l), some (.ref w), A, B, C]) ∧ Same H H' ∧ H' l = some (.lst [.ref q]) ∧
    ∃ ws : List Str, H' w = some (.lst (ws.map V.str)) ∧ ws.length ≤ 2 ∧ (∀ y ∈ ws, y.length ≤ 20000) ∧ (ws.map tl).flatten = (if t < 0 then [45] else []) ++ sizeD t.natAbs b (letD es))) (.inl ⟨rfl, rfl, rfl⟩) (fun i σ H' _ s => ?_) (fun i y σ H' hy s => ?_) fun σ H' s => ?_
  · rcases s with ⟨_, _, rfl⟩ | ⟨_, _, _, s, _⟩
    · exact a0.l
    · exact s
  · rcases s with ⟨rfl, rfl, rfl⟩ | ⟨rfl, _⟩
    · obtain rfl : V.ref q = y := by simpa using hy
      refine x_tup2 a0.q ?_
      show tSeq _ _ _ [some (.ref l), some (.ref w), some (.ref e), some (.ref r), none] H'
      obtain ⟨dx, hr⟩ := id a0.r
      rw [x_seq]
      simp only [x_if, x_test, x_B, x_op, x_un, x_varS, x_var0, x_c, x_I0, x_I, x_U, x_bl, x_ret, x_next, x_eqS, x_neS, x_m0, x_m1, x_isStr, x_SM, x_addT, x_slS, x_lenS, x_strI, x_mulS, x_startT, x_findT, x_preT, x_lstT, x_ascT, x_digT, x_jn, x_js0, x_js1, x_isS, x_fmt, x_fmtS, x_divW, x_truK, x_truS, x_raiseT, x_asg, x_name, x_set0, x_setS, x_drop, x_cb, x_cons, x_nil, x_int1, x_abs1, x_max2, x_gcd, x_gsub, x_sl, x_part, x_nopart, x_int, x_call, x_lst, x_tup, x_not, x_and, x_or, x_andV, x_orV, x_notV, x_ifE, x_eqI, x_neI, x_eqB, x_neB, x_tbm, x_never, x_make, x_meth, x_isII, x_isIC, x_bool1, decide_eq_true_eq, Bool.false_eq_true, if_false, if_true, List.append_nil, List.nil_append, List.cons_append]
      refine ⟨r, dx, _, rfl, hr, rfl, r, t, b, rfl, a0.r, ?_⟩
      simp only [x_if, x_test, x_B, x_op, x_un, x_varS, x_var0, x_c, x_I0, x_I, x_U, x_bl, x_ret, x_next, x_eqS, x_neS, x_m0, x_m1, x_isStr, x_SM, x_addT, x_slS, x_lenS, x_strI, x_mulS, x_startT, x_findT, x_preT, x_lstT, x_ascT, x_digT, x_jn, x_js0, x_js1, x_isS, x_fmt, x_fmtS, x_divW, x_truK, x_truS, x_raiseT, x_asg, x_name, x_set0, x_setS, x_drop, x_cb, x_cons, x_nil, x_int1, x_abs1, x_max2, x_gcd, x_gsub, x_sl, x_part, x_nopart, x_int, x_call, x_lst, x_tup, x_not, x_and, x_or, x_andV, x_orV, x_notV, x_ifE, x_eqI, x_neI, x_eqB, x_neB, x_tbm, x_never, x_make, x_meth, x_isII, x_isIC, x_bool1, decide_eq_true_eq, Bool.false_eq_true, if_false, if_true, List.append_nil, List.nil_append, List.cons_append]
      have rest : ∀ (H1 : Hp) (A : Option V) (ws : List Str), H1 w = some (.lst (ws.map V.str)) → ws.length ≤ 1 → (∀ y ∈ ws, y.length ≤ 20000) → (ws.map tl).flatten = (if t < 0 then [45] else []) → (∀ c o, H c = some o → H1 c = some o) → Term1 C H1 l q e r es t b →
          ∀ D : Ends, (∀ H2, (Same H H2 ∧ H2 l = some (.lst [.ref q]) ∧ ∃ ws : List Str, H2 w = some (.lst (ws.map V.str)) ∧ ws.length ≤ 2 ∧ (∀ y ∈ ws, y.length ≤ 20000) ∧ (ws.map tl).flatten = (if t < 0 then [45] else []) ++ sizeD t.natAbs b (letD es)) → D.nx [some (.ref l), some (.ref w), some (.ref e), some (.ref r), A] H2) →
          tDrop (tBM K "list" rAppend (tVar 1) (tCons (tCall (spWSize C) [] E0 (tCons (tCB (rOwnAbs C (spAbsW C) E0) (tCons (tVar 3) tNil)) (tCons (tCall spWMon [] E0 (tCons (tVar 2) tNil)) tNil))) tNil)) D [some (.ref l), some (.ref w), some (.ref e), some (.ref r), A] H1 := by
        intro H1 A ws hw1 lw lb ht sH a1 D hD
        obtain ⟨dx, hr⟩ := id a1.r
        simp only [x_seq, x_if, x_test, x_B, x_op, x_un, x_varS, x_var0, x_c, x_I0, x_I, x_U, x_bl, x_ret, x_next, x_eqS, x_neS, x_m0, x_m1, x_isStr, x_SM, x_addT, x_slS, x_lenS, x_strI, x_mulS, x_startT, x_findT, x_preT, x_lstT, x_ascT, x_digT, x_jn, x_js0, x_js1, x_isS, x_fmt, x_fmtS, x_divW, x_truK, x_truS, x_raiseT, x_asg, x_name, x_set0, x_setS, x_drop, x_cb, x_cons, x_nil, x_int1, x_abs1, x_max2, x_gcd, x_gsub, x_sl, x_part, x_nopart, x_int, x_call, x_lst, x_tup, x_not, x_and, x_or, x_andV, x_orV, x_notV, x_ifE, x_eqI, x_neI, x_eqB, x_neB, x_tbm, x_never, x_make, x_meth, x_isII, x_isIC, x_bool1, decide_eq_true_eq, Bool.false_eq_true, if_false, if_true, List.append_nil, List.nil_append, List.cons_append]
        refine ⟨ty_lst hw1, r, dx, _, rfl, hr, r, t, b, rfl, a1.r, low, fun r2 H2 n d hr2 hn s2 => ?_⟩
        have al : Low (if t < 0 then -t else t) b := ⟨low.pos, by have := low.cop; split <;> simpa using this⟩
        have nl := hn.low
        obtain ⟨rfl, rfl⟩ := nl.same al hn.eq
        refine ⟨e, es, rfl, s2 _ _ a1.e, x, fun y H3 hy s3 => ?_⟩
        have en : (t.natAbs : Int) = if t < 0 then -t else t := by split <;> omega
        rw [← en] at hr2 al
        have bn : Bd 17999 (t.natAbs : Int) := by unfold Bd; rw [Int.natAbs_natCast]; exact bt
        refine ⟨r2, y, _, _, rfl, hr2.same s3, al, bn, bb, by rw [hy]; exact ne, by rw [tl_len, hy]; exact ln, fun z H4 hz lz s4 => ?_⟩
        have s34 := (s2.trans s3).trans s4
        dsimp only
        rw [x_append (s34 _ _ hw1) (Nat.lt_of_lt_of_le (show (ws.map V.str).length < 100 by rw [List.length_map]; omega) (by decide))]
        refine hD _ ⟨fun c o hc => ?_, ?_, ws ++ [z], by rw [upd_same, List.map_append]; rfl, by simp; omega, fun u hu => ?_, ?_⟩
        · rw [upd_ne (ne_of_none hc hw)]
          exact s34 _ _ (sH _ _ hc)
        · rw [upd_ne (ne_of_none h.l hw)]
          exact s34 _ _ a1.l
        · rcases List.mem_append.mp hu with hu | hu
          · exact lb u hu
          · rw [List.mem_singleton.mp hu]
            exact lz
        · rw [List.map_append, List.flatten_append, ht]
          simp [hz, hy]
      rw [x_seq]
      simp only [x_if, x_truK, x_varS, x_var0]
      refine ⟨false, tru_lst e0, ?_⟩
      rw [if_neg (by decide)]
      simp only [x_if, x_B, x_varS, x_var0]
      refine ⟨_, rfl, ?_⟩
      have fin : ∀ A H2, (Same H H2 ∧ H2 l = some (.lst [.ref q]) ∧ ∃ ws : List Str, H2 w = some (.lst (ws.map V.str)) ∧ ws.length ≤ 2 ∧ (∀ y ∈ ws, y.length ≤ 20000) ∧ (ws.map tl).flatten = (if t < 0 then [45] else []) ++ sizeD t.natAbs b (letD es)) →
          0 + 1 = 0 ∧ [some (V.ref l), some (.ref w), some (.ref e), some (.ref r), A] = [some (.ref l), some (.ref w), none, none, none] ∧ H2 = H' ∨ True ∧ (∃ A' B C, [some (V.ref l), some (.ref w), some (.ref e), some (.ref r), A] = [some (.ref l), some (.ref w), A', B, C]) ∧ Same H H2 ∧ H2 l = some (.lst [.ref q]) ∧
            ∃ ws : List Str, H2 w = some (.lst (ws.map V.str)) ∧ ws.length ≤ 2 ∧ (∀ y ∈ ws, y.length ≤ 20000) ∧ (ws.map tl).flatten = (if t < 0 then [45] else []) ++ sizeD t.natAbs b (letD es) := fun A H2 z => .inr ⟨trivial, ⟨_, _, _, rfl⟩, z.1, z.2.1, z.2.2⟩
      refine ite2 (fun hn => ?_) fun hn => ?_
      · have tn : t < 0 := by
          have := of_decide_eq_true hn
          exact Int.sign_neg_iff.mp this |> fun z => by omega
        refine drop_append e0 (by decide) ?_
        refine rest _ _ ["-"] upd_same (by simp) (fun y hy => by rw [List.mem_singleton.mp hy]; decide +kernel) ?_ (fun c o hc => by rw [upd_ne (ne_of_none hc hw)]; exact s0 _ _ hc) ?_ _ (fin _)
        · rw [if_pos tn]
          decide +kernel
        · have nw : ∀ {c o}, H c = some o → (upd H' w (.lst ([] ++ [V.str "-"]))) c = some o := fun hc => by rw [upd_ne (ne_of_none hc hw)]; exact s0 _ _ hc
          exact h.same fun c o hc => nw hc
      · refine rest H' _ [] e0 (by simp) (by simp) ?_ s0 a0 _ (fin _)
        have : ¬ t < 0 := fun z => hn (decide_eq_true (by have := Int.sign_eq_neg_one_of_neg z; omega))
        rw [if_neg this]
        rfl
    · simp at hy
  · rcases s with ⟨e, _⟩ | ⟨_, ⟨A, B, C, rfl⟩, s, _, ws, hws, l2, lb, ht⟩
    · simp at e
    · show tRet (tVar 1) _ [some (.ref l), some (.ref w), A, B, C] H'
      simp only [x_seq, x_if, x_test, x_B, x_op, x_un, x_varS, x_var0, x_c, x_I0, x_I, x_U, x_bl, x_ret, x_next, x_eqS, x_neS, x_m0, x_m1, x_isStr, x_SM, x_addT, x_slS, x_lenS, x_strI, x_mulS, x_startT, x_findT, x_preT, x_lstT, x_ascT, x_digT, x_jn, x_js0, x_js1, x_isS, x_fmt, x_fmtS, x_divW, x_truK, x_truS, x_raiseT, x_asg, x_name, x_set0, x_setS, x_drop, x_cb, x_cons, x_nil, x_int1, x_abs1, x_max2, x_gcd, x_gsub, x_sl, x_part, x_nopart, x_int, x_call, x_lst, x_tup, x_not, x_and, x_or, x_andV, x_orV, x_notV, x_ifE, x_eqI, x_neI, x_eqB, x_neB, x_tbm, x_never, x_make, x_meth, x_isII, x_isIC, x_bool1, decide_eq_true_eq, Bool.false_eq_true, if_false, if_true, List.append_nil, List.nil_append, List.cons_append]
      exact k w ws H' hws l2 lb ht s
theorem pure_pstr (vs : List V) (H : Hp) (Q : VK) (E : XK) (h : spPStr C PC vs H Q E) : t_pstr P0 K mg C Z D BN PC VA BP f_place E { nx := fun _ H' => Q .non H', rt := Q } (start ["self"] vs) H := by
  obtain ⟨p, es, t, b, rfl, ⟨dx, l, q, e, r, d, h1, h2, h3, h4, h5⟩, x, ne, ln, low, nz, bt, bb, k⟩ := h
  show t_pstr P0 K mg C Z D BN PC VA BP f_place E _ [some (.ref p)] H
  unfold t_pstr
  simp only [x_seq, x_if, x_test, x_B, x_op, x_un, x_varS, x_var0, x_c, x_I0, x_I, x_U, x_bl, x_ret, x_next, x_eqS, x_neS, x_m0, x_m1, x_isStr, x_SM, x_addT, x_slS, x_lenS, x_strI, x_mulS, x_startT, x_findT, x_preT, x_lstT, x_ascT, x_digT, x_jn, x_js0, x_js1, x_isS, x_fmt, x_fmtS, x_divW, x_truK, x_truS, x_raiseT, x_asg, x_name, x_set0, x_setS, x_drop, x_cb, x_cons, x_nil, x_int1, x_abs1, x_max2, x_gcd, x_gsub, x_sl, x_part, x_nopart, x_int, x_call, x_lst, x_tup, x_not, x_and, x_or, x_andV, x_orV, x_notV, x_ifE, x_eqI, x_neI, x_eqB, x_neB, x_tbm, x_never, x_make, x_meth, x_isII, x_isIC, x_bool1, decide_eq_true_eq, Bool.false_eq_true, if_false, if_true, List.append_nil, List.nil_append, List.cons_append, x_ppairs h1]
  refine ⟨l, q, e, r, es, t, b, rfl, ⟨h2, h3, h4, h5⟩, x, ne, ln, low, nz, bt, bb, fun w ws H' hw hl hb ht s => ?_⟩
  have l0 : ("" : Str).length = 0 := by decide +kernel
  have := sum_len hb
  try simp only [x_seq, x_if, x_test, x_B, x_op, x_un, x_varS, x_var0, x_c, x_I0, x_I, x_U, x_bl, x_ret, x_next, x_eqS, x_neS, x_m0, x_m1, x_isStr, x_SM, x_addT, x_slS, x_lenS, x_strI, x_mulS, x_startT, x_findT, x_preT, x_lstT, x_ascT, x_digT, x_jn, x_js0, x_js1, x_isS, x_fmt, x_fmtS, x_divW, x_truK, x_truS, x_raiseT, x_asg, x_name, x_set0, x_setS, x_drop, x_cb, x_cons, x_nil, x_int1, x_abs1, x_max2, x_gcd, x_gsub, x_sl, x_part, x_nopart, x_int, x_call, x_lst, x_tup, x_not, x_and, x_or, x_andV, x_orV, x_notV, x_ifE, x_eqI, x_neI, x_eqB, x_neB, x_tbm, x_never, x_make, x_meth, x_isII, x_isIC, x_bool1, decide_eq_true_eq, Bool.false_eq_true, if_false, if_true, List.append_nil, List.nil_append, List.cons_append]
  refine ⟨_, w, ws, rfl, rfl, .inl (SqL.at hw), by rw [l0]; omega, k _ H' ?_ s⟩
  rw [← ht, ← tl_join0]
  rfl
end
end SpX

set_option Elab.async false
set_option linter.all false
set_option maxRecDepth 100000
set_option maxHeartbeats 2000000
set_option exponentiation.threshold 20000
/-! k65: what is drawn. -/
namespace SpX
open PySem PySem.Spec NumText L2 StX RZ
open TL (tl)
/-- a whole number of 60 digits -/
structure Fig (r : Int) : Prop where
  pos : 0 < r
  lt : r.natAbs < 10 ^ 60
def spFig : Sp := fun vs H Q _ => ∃ P : Addr, vs = [.ref P] ∧ PoolAt H P ∧ ∀ (r : Int) (H' : Hp), PoolAt H' P → Keep P H H' → Fig r → Q (.int r) H'
/-- a number in lowest terms, its parts of at most 60 digits -/
structure Num6 (t b : Int) : Prop where
  low : Low t b
  nz : t ≠ 0
  t60 : t.natAbs < 10 ^ 60
  b60 : b.natAbs < 10 ^ 60
def spLDrawn : Sp := fun vs H Q _ => ∃ P : Addr, vs = [.ref P] ∧ PoolAt H P ∧ ∀ (o : Addr) (H' : Hp) (t b : Int), TupAt H' o t b → Num6 t b → PoolAt H' P → Keep P H H' → Q (.ref o) H'
def spLExps : Sp := fun vs H Q _ => ∃ P : Addr, vs = [.ref P] ∧ PoolAt H P ∧ ∀ (e : Addr) (es : List Int) (H' : Hp), ExpAt H' e es → Exps es → 1 ≤ es.sum → es.sum ≤ 5 → PoolAt H' P → Keep P H H' → Q (.ref e) H'
def t_lfig (P : Program) (K : PySem.W.Frag) (mg : Str → Option Value) (C Z D BN PC VA BP f_place : Addr) (E : XK) : TS :=
    (tSeq (tAsg (tOp (rI0 fun i j => .int (i + j)) (tC (.int 1)) (tCall spTakeB [] E0 (tCons (tVar 0) (tCons (tC (.int 9)) tNil)))) (gName 1))
    (tSeq (tFor (iRng1 (tCons (tC (.int 7)) tNil)) (gName 2) ((tAsg (tOp (rI0 fun i j => .int (i + j)) (tOp (rI IntMulOk fun i j => .int (i * j)) (tVar 1) (tOp (rI CPow fun i j => .int (i ^ j.toNat)) (tC (.int 10)) (tC (.int 9)))) (tCall spTakeB [] E0 (tCons (tVar 0) (tCons (tOp (rI CPow fun i j => .int (i ^ j.toNat)) (tC (.int 10)) (tC (.int 9))) tNil)))) (gName 1))))
    (tSeq (tAsg (tOp (rI0 fun i j => .int (i + j)) (tOp (rI IntMulOk fun i j => .int (i * j)) (tVar 1) (tC (.int 100000))) (tCall spTakeB [] E0 (tCons (tVar 0) (tCons (tC (.int 100000)) tNil)))) (gName 1))
    (tRet (tOp (rI0 fun i j => .int (i + j)) (tOp (rI (fun _ j => 0 < j) fun i j => .int (i % j)) (tCB rInt1 (tCons (tVar 1) tNil)) (tOp (rI CPow fun i j => .int (i ^ j.toNat)) (tC (.int 10)) (tC (.int 59)))) (tOp (rI IntMulOk fun i j => .int (i * j)) (tOp (rI0 fun i j => .int (i + j)) (tC (.int 1)) (tCall spTakeB [] E0 (tCons (tVar 0) (tCons (tC (.int 9)) tNil)))) (tOp (rI CPow fun i j => .int (i ^ j.toNat)) (tC (.int 10)) (tC (.int 59)))))))))
def t_ldrawn (P : Program) (K : PySem.W.Frag) (mg : Str → Option Value) (C Z D BN PC VA BP f_place : Addr) (E : XK) : TS :=
    (tSeq (tAsg (tCall spFig [] E0 (tCons (tVar 0) tNil)) (gName 1))
    (tSeq (tAsg (tC (.int 1)) (gName 2))
    (tSeq (tAsg (tCall spTakeB [] E0 (tCons (tVar 0) (tCons (tC (.int 3)) tNil))) (gName 3))
    (tSeq (tIfS (tTest (tOp rEq (tVar 3) (tC (.int 1)))) (tAsg (tCall spFig [] E0 (tCons (tVar 0) tNil)) (gName 2)) tNext)
    (tSeq (tIfS (tTest (tOp rEq (tVar 3) (tC (.int 2)))) (tSeq (tAsg (tVar 1) (gName 2))
    (tAsg (tOp (rI0 fun i j => .int (i + j)) (tC (.int 1)) (tCall spTakeB [] E0 (tCons (tVar 0) (tCons (tOp (rI CPow fun i j => .int (i ^ j.toNat)) (tC (.int 10)) (tC (.int 9))) tNil)))) (gName 1))) tNext)
    (tSeq (tAsg (tCall spCommon [] E0 (tCons (tVar 1) (tCons (tVar 2) tNil))) (gName 4))
    (tSeq (tIfS (tTest (tOp rEq (tCall spTakeB [] E0 (tCons (tVar 0) (tCons (tC (.int 2)) tNil))) (tC (.int 0)))) (tAsg (tUn (rU fun i => .int (-i)) (tVar 1)) (gName 1)) tNext)
    (tRet (tTup (tCons (tOp (rI CDivF fun i j => .int (i.fdiv j)) (tVar 1) (tVar 4)) (tCons (tOp (rI CDivF fun i j => .int (i.fdiv j)) (tVar 2) (tVar 4)) tNil)))))))))))
def t_ldrawn_5 (P : Program) (K : PySem.W.Frag) (mg : Str → Option Value) (C Z D BN PC VA BP f_place : Addr) (E : XK) : TS :=
    (tSeq (tAsg (tCall spCommon [] E0 (tCons (tVar 1) (tCons (tVar 2) tNil))) (gName 4))
    (tSeq (tIfS (tTest (tOp rEq (tCall spTakeB [] E0 (tCons (tVar 0) (tCons (tC (.int 2)) tNil))) (tC (.int 0)))) (tAsg (tUn (rU fun i => .int (-i)) (tVar 1)) (gName 1)) tNext)
    (tRet (tTup (tCons (tOp (rI CDivF fun i j => .int (i.fdiv j)) (tVar 1) (tVar 4)) (tCons (tOp (rI CDivF fun i j => .int (i.fdiv j)) (tVar 2) (tVar 4)) tNil))))))
def t_lexps (P : Program) (K : PySem.W.Frag) (mg : Str → Option Value) (C Z D BN PC VA BP f_place : Addr) (E : XK) : TS :=
    (tSeq (tAsg (tSl rSlA (tLst (tCons (tC (.int 0)) (tCons (tC (.int 0)) (tCons (tC (.int 0)) tNil)))) tNoPart (tPart (tOp (rI0 fun i j => .int (i + j)) (tC (.int 1)) (tCall spTakeB [] E0 (tCons (tVar 0) (tCons (tC (.int 3)) tNil)))))) (gName 1))
    (tSeq (tFor (iRng1 (tCons (tOp (rI0 fun i j => .int (i + j)) (tC (.int 1)) (tCall spTakeB [] E0 (tCons (tVar 0) (tCons (tC (.int 5)) tNil)))) tNil)) (gName 2) ((tSeq (tAsg (tCall spTakeB [] E0 (tCons (tVar 0) (tCons (tCB rLenA (tCons (tVar 1) tNil)) tNil))) (gName 3))
    (tAsg (tOp (rI0 fun i j => .int (i + j)) (tOp rIx1 (tVar 1) (tVar 3)) (tC (.int 1))) (gSub (tVar 1) (tVar 3) rSetL)))))
    (tRet (tCB rTupA (tCons (tVar 1) tNil)))))
section
variable {P0 : Program} {K : PySem.W.Frag} {mg : Str → Option Value} {C Z D BN PC VA BP f_place : Addr}
theorem p59 : (10 : Int) ^ (59 : Int).toNat = ((10 ^ 59 : Nat) : Int) := by decide +kernel
theorem le59 : 10 ^ 59 ≤ 2 ^ 200 := by decide +kernel
theorem t60' : (10 : Nat) * 10 ^ 59 = 10 ^ 60 := by decide +kernel
theorem cp9 : CPow 10 9 := pow_ok (by decide) (by decide) (by decide)
theorem cp59 : CPow 10 59 := pow_ok (by decide) (by decide) (by decide)
theorem cp60 : CPow 10 60 := pow_ok (by decide) (by decide) (by decide)
theorem pure_lfig (vs : List V) (H : Hp) (Q : VK) (E : XK) (h : spFig vs H Q E) : t_lfig P0 K mg C Z D BN PC VA BP f_place E { nx := fun _ H' => Q .non H', rt := Q } (start ["pool", "number", "k"] vs) H := by
  obtain ⟨P, rfl, hp, k⟩ := h
  show t_lfig P0 K mg C Z D BN PC VA BP f_place E _ [some (.ref P), none, none] H
  unfold t_lfig
  rw [x_seq]
  simp only [x_if, x_test, x_B, x_op, x_un, x_varS, x_var0, x_c, x_I0, x_I, x_U, x_bl, x_ret, x_next, x_eqS, x_neS, x_m0, x_m1, x_isStr, x_SM, x_addT, x_slS, x_lenS, x_strI, x_mulS, x_startT, x_findT, x_preT, x_lstT, x_ascT, x_digT, x_jn, x_js0, x_js1, x_isS, x_fmt, x_fmtS, x_divW, x_truK, x_truS, x_raiseT, x_asg, x_name, x_set0, x_setS, x_drop, x_cb, x_cons, x_nil, x_int1, x_abs1, x_max2, x_gcd, x_gsub, x_sl, x_part, x_nopart, x_int, x_call, x_lst, x_tup, x_not, x_and, x_or, x_andV, x_orV, x_notV, x_ifE, x_eqI, x_neI, x_eqB, x_neB, x_tbm, x_never, x_make, x_meth, x_isII, x_isIC, x_bool1, decide_eq_true_eq, Bool.false_eq_true, if_false, if_true, List.append_nil, List.nil_append, List.cons_append]
  refine take_of (n := 31) hp (by decide) (.lit _ (by decide) (by decide) (by decide)) (by decide) fun a H1 hp1 k1 a0 a1 => ?_
  simp only [x_if, x_test, x_B, x_op, x_un, x_varS, x_var0, x_c, x_I0, x_I, x_U, x_bl, x_ret, x_next, x_eqS, x_neS, x_m0, x_m1, x_isStr, x_SM, x_addT, x_slS, x_lenS, x_strI, x_mulS, x_startT, x_findT, x_preT, x_lstT, x_ascT, x_digT, x_jn, x_js0, x_js1, x_isS, x_fmt, x_fmtS, x_divW, x_truK, x_truS, x_raiseT, x_asg, x_name, x_set0, x_setS, x_drop, x_cb, x_cons, x_nil, x_int1, x_abs1, x_max2, x_gcd, x_gsub, x_sl, x_part, x_nopart, x_int, x_call, x_lst, x_tup, x_not, x_and, x_or, x_andV, x_orV, x_notV, x_ifE, x_eqI, x_neI, x_eqB, x_neB, x_tbm, x_never, x_make, x_meth, x_isII, x_isIC, x_bool1, decide_eq_true_eq, Bool.false_eq_true, if_false, if_true, List.append_nil, List.nil_append, List.cons_append]
  rw [x_seq]
  refine for_rngC (by decide) (fun i σ H' => PoolAt H' P ∧ Keep P H H' ∧ ∃ (n : Int) (A : Option V), σ = [some (.ref P), some (.int n), A] ∧ 0 ≤ n ∧ Bd (5 + 31 * i) n) ⟨hp1, k1, _, _, rfl, by omega, by unfold Bd; omega⟩ (fun i σ H' hi s => ?_) fun σ H' s => ?_
  · obtain ⟨hp', k', n, A, rfl, n0, nb⟩ := s
    simp only [x_seq, x_if, x_test, x_B, x_op, x_un, x_varS, x_var0, x_c, x_I0, x_I, x_U, x_bl, x_ret, x_next, x_eqS, x_neS, x_m0, x_m1, x_isStr, x_SM, x_addT, x_slS, x_lenS, x_strI, x_mulS, x_startT, x_findT, x_preT, x_lstT, x_ascT, x_digT, x_jn, x_js0, x_js1, x_isS, x_fmt, x_fmtS, x_divW, x_truK, x_truS, x_raiseT, x_asg, x_name, x_set0, x_setS, x_drop, x_cb, x_cons, x_nil, x_int1, x_abs1, x_max2, x_gcd, x_gsub, x_sl, x_part, x_nopart, x_int, x_call, x_lst, x_tup, x_not, x_and, x_or, x_andV, x_orV, x_notV, x_ifE, x_eqI, x_neI, x_eqB, x_neB, x_tbm, x_never, x_make, x_meth, x_isII, x_isIC, x_bool1, decide_eq_true_eq, Bool.false_eq_true, if_false, if_true, List.append_nil, List.nil_append, List.cons_append, p9]
    have b9 : Bd 30 (1000000000 : Int) := by unfold Bd; decide
    refine ⟨cp9, nb.ok b9 (by omega) (by decide) (by omega), cp9, ?_⟩
    refine take_of (n := 30) hp' (by decide) (by unfold Bd; decide) (by decide) fun r H2 hp2 k2 r0 r1 => ?_
    simp only [x_if, x_test, x_B, x_op, x_un, x_varS, x_var0, x_c, x_I0, x_I, x_U, x_bl, x_ret, x_next, x_eqS, x_neS, x_m0, x_m1, x_isStr, x_SM, x_addT, x_slS, x_lenS, x_strI, x_mulS, x_startT, x_findT, x_preT, x_lstT, x_ascT, x_digT, x_jn, x_js0, x_js1, x_isS, x_fmt, x_fmtS, x_divW, x_truK, x_truS, x_raiseT, x_asg, x_name, x_set0, x_setS, x_drop, x_cb, x_cons, x_nil, x_int1, x_abs1, x_max2, x_gcd, x_gsub, x_sl, x_part, x_nopart, x_int, x_call, x_lst, x_tup, x_not, x_and, x_or, x_andV, x_orV, x_notV, x_ifE, x_eqI, x_neI, x_eqB, x_neB, x_tbm, x_never, x_make, x_meth, x_isII, x_isIC, x_bool1, decide_eq_true_eq, Bool.false_eq_true, if_false, if_true, List.append_nil, List.nil_append, List.cons_append]
    refine ⟨hp2, k'.trans k2, _, _, rfl, by omega, ?_⟩
    have := (nb.mul b9).add (Bd.mono (n := 5 + 31 * i + 30) (show Bd 30 r from by unfold Bd; omega) (by omega))
    exact this.mono (by omega)
  · obtain ⟨hp', k', n, A, rfl, n0, nb⟩ := s
    simp only [x_seq, x_if, x_test, x_B, x_op, x_un, x_varS, x_var0, x_c, x_I0, x_I, x_U, x_bl, x_ret, x_next, x_eqS, x_neS, x_m0, x_m1, x_isStr, x_SM, x_addT, x_slS, x_lenS, x_strI, x_mulS, x_startT, x_findT, x_preT, x_lstT, x_ascT, x_digT, x_jn, x_js0, x_js1, x_isS, x_fmt, x_fmtS, x_divW, x_truK, x_truS, x_raiseT, x_asg, x_name, x_set0, x_setS, x_drop, x_cb, x_cons, x_nil, x_int1, x_abs1, x_max2, x_gcd, x_gsub, x_sl, x_part, x_nopart, x_int, x_call, x_lst, x_tup, x_not, x_and, x_or, x_andV, x_orV, x_notV, x_ifE, x_eqI, x_neI, x_eqB, x_neB, x_tbm, x_never, x_make, x_meth, x_isII, x_isIC, x_bool1, decide_eq_true_eq, Bool.false_eq_true, if_false, if_true, List.append_nil, List.nil_append, List.cons_append]
    have b5 : Bd 17 (100000 : Int) := by unfold Bd; decide
    refine ⟨nb.ok b5 (by omega) (by decide) (by omega), ?_⟩
    refine take_of (n := 17) hp' (by decide) b5 (by decide) fun r H2 hp2 k2 r0 r1 => ?_
    simp only [x_if, x_test, x_B, x_op, x_un, x_varS, x_var0, x_c, x_I0, x_I, x_U, x_bl, x_ret, x_next, x_eqS, x_neS, x_m0, x_m1, x_isStr, x_SM, x_addT, x_slS, x_lenS, x_strI, x_mulS, x_startT, x_findT, x_preT, x_lstT, x_ascT, x_digT, x_jn, x_js0, x_js1, x_isS, x_fmt, x_fmtS, x_divW, x_truK, x_truS, x_raiseT, x_asg, x_name, x_set0, x_setS, x_drop, x_cb, x_cons, x_nil, x_int1, x_abs1, x_max2, x_gcd, x_gsub, x_sl, x_part, x_nopart, x_int, x_call, x_lst, x_tup, x_not, x_and, x_or, x_andV, x_orV, x_notV, x_ifE, x_eqI, x_neI, x_eqB, x_neB, x_tbm, x_never, x_make, x_meth, x_isII, x_isIC, x_bool1, decide_eq_true_eq, Bool.false_eq_true, if_false, if_true, List.append_nil, List.nil_append, List.cons_append, p59]
    have pos : (0 : Int) < ((10 ^ 59 : Nat) : Int) := by decide +kernel
    have b59 : Bd 200 ((10 ^ 59 : Nat) : Int) := by unfold Bd; rw [Int.natAbs_natCast]; decide +kernel
    refine ⟨cp59, pos, ?_⟩
    refine take_of (n := 31) hp2 (by decide) (.lit _ (by decide) (by decide) (by decide)) (by decide) fun d H3 hp3 k3 d0 d1 => ?_
    simp only [x_if, x_test, x_B, x_op, x_un, x_varS, x_var0, x_c, x_I0, x_I, x_U, x_bl, x_ret, x_next, x_eqS, x_neS, x_m0, x_m1, x_isStr, x_SM, x_addT, x_slS, x_lenS, x_strI, x_mulS, x_startT, x_findT, x_preT, x_lstT, x_ascT, x_digT, x_jn, x_js0, x_js1, x_isS, x_fmt, x_fmtS, x_divW, x_truK, x_truS, x_raiseT, x_asg, x_name, x_set0, x_setS, x_drop, x_cb, x_cons, x_nil, x_int1, x_abs1, x_max2, x_gcd, x_gsub, x_sl, x_part, x_nopart, x_int, x_call, x_lst, x_tup, x_not, x_and, x_or, x_andV, x_orV, x_notV, x_ifE, x_eqI, x_neI, x_eqB, x_neB, x_tbm, x_never, x_make, x_meth, x_isII, x_isIC, x_bool1, decide_eq_true_eq, Bool.false_eq_true, if_false, if_true, List.append_nil, List.nil_append, List.cons_append, p59]
    refine ⟨cp59, (show Bd 5 (1 + d) from by unfold Bd; omega).ok b59 (by decide) (by decide) (by decide), k _ H3 hp3 ((k'.trans k2).trans k3) ?_⟩
    have t6 := t60'
    have m0 := Int.emod_nonneg (n * 100000 + r) (by omega : ((10 ^ 59 : Nat) : Int) ≠ 0)
    have m1 := Int.emod_lt_of_pos (n * 100000 + r) pos
    rw [Int.add_mul]
    have hd : d * ((10 ^ 59 : Nat) : Int) ≤ 8 * ((10 ^ 59 : Nat) : Int) := Int.mul_le_mul_of_nonneg_right (by omega) (by omega)
    have hd0 : 0 ≤ d * ((10 ^ 59 : Nat) : Int) := Int.mul_nonneg d0 (by omega)
    suffices z : ∀ y : Int, y = (n * 100000 + r) % ((10 ^ 59 : Nat) : Int) + (1 * ((10 ^ 59 : Nat) : Int) + d * ((10 ^ 59 : Nat) : Int)) → 0 < y ∧ y.natAbs < 10 ^ 60 from ⟨(z _ rfl).1, (z _ rfl).2⟩
    intro y hy
    generalize (n * 100000 + r) % ((10 ^ 59 : Nat) : Int) = m at m0 m1 hy
    generalize d * ((10 ^ 59 : Nat) : Int) = x at hd hd0 hy
    generalize 10 ^ 60 = L at t6 ⊢
    generalize 10 ^ 59 = M at *
    exact ⟨by omega, by omega⟩
theorem fig_bd {r : Int} (h : Fig r) : Bd 200 r := Nat.lt_of_lt_of_le h.lt (by decide +kernel)
theorem tail_drawn {P : Addr} {top low : Int} {A : Option V} {H : Hp} {Q : VK} (ht : 0 < top) (hl : 0 < low) (t6 : top.natAbs < 10 ^ 60) (l6 : low.natAbs < 10 ^ 60) (hp : PoolAt H P) (k : ∀ (o : Addr) (H' : Hp) (t b : Int), TupAt H' o t b → Num6 t b → PoolAt H' P → Keep P H H' → Q (.ref o) H') :
    t_ldrawn_5 P0 K mg C Z D BN PC VA BP f_place E0 { nx := fun _ H' => Q .non H', rt := Q } [some (.ref P), some (.int top), some (.int low), A, none] H := by
  unfold t_ldrawn_5
  simp only [x_seq, x_if, x_test, x_B, x_op, x_un, x_varS, x_var0, x_c, x_I0, x_I, x_U, x_bl, x_ret, x_next, x_eqS, x_neS, x_m0, x_m1, x_isStr, x_SM, x_addT, x_slS, x_lenS, x_strI, x_mulS, x_startT, x_findT, x_preT, x_lstT, x_ascT, x_digT, x_jn, x_js0, x_js1, x_isS, x_fmt, x_fmtS, x_divW, x_truK, x_truS, x_raiseT, x_asg, x_name, x_set0, x_setS, x_drop, x_cb, x_cons, x_nil, x_int1, x_abs1, x_max2, x_gcd, x_gsub, x_sl, x_part, x_nopart, x_int, x_call, x_lst, x_tup, x_not, x_and, x_or, x_andV, x_orV, x_notV, x_ifE, x_eqI, x_neI, x_eqB, x_neB, x_tbm, x_never, x_make, x_meth, x_isII, x_isIC, x_bool1, decide_eq_true_eq, Bool.false_eq_true, if_false, if_true, List.append_nil, List.nil_append, List.cons_append]
  have lb : Bd 8000 low := Nat.lt_of_lt_of_le l6 (Nat.le_trans (show 10 ^ 60 ≤ 2 ^ 200 by decide +kernel) (Nat.pow_le_pow_right (by decide) (by decide)))
  refine common_of lb ?_
  refine take_of (n := 31) hp (by decide) (.lit _ (by decide) (by decide) (by decide)) (by decide) fun c H1 hp1 k1 _ _ => ?_
  have fin : ∀ x : Int, x ≠ 0 → x.natAbs = top.natAbs → CDivF x ((Nat.gcd top.natAbs low.natAbs : Nat) : Int) ∧ CDivF low ((Nat.gcd top.natAbs low.natAbs : Nat) : Int) ∧ ∀ (o : Addr) (H' : Hp), TupAt H' o (x.fdiv ((Nat.gcd top.natAbs low.natAbs : Nat) : Int)) (low.fdiv ((Nat.gcd top.natAbs low.natAbs : Nat) : Int)) → PoolAt H' P → Keep P H H' → Q (.ref o) H' := by
    intro x hx hn
    obtain ⟨gn, ga, hN⟩ := norm_mk (x := x) (y := low) (g := ((Nat.gcd top.natAbs low.natAbs : Nat) : Int)) (by omega) (by rw [if_neg (by omega), hn])
    have gb : (((Nat.gcd top.natAbs low.natAbs : Nat) : Int)).natAbs < 2 ^ 8000 := by
      rw [ga]
      exact Nat.lt_of_le_of_lt (Nat.gcd_le_right _ (by omega)) lb
    have le := hN.le (by omega)
    refine ⟨any_div gn gb, any_div gn gb, fun o H' ho hp' kp => k o H' _ _ ho ⟨hN.low, fun z => ?_, by omega, by omega⟩ hp' kp⟩
    have e := hN.eq
    rw [z, Int.zero_mul] at e
    rcases Int.mul_eq_zero.mp e.symm with h | h
    · exact hx h
    · exact hN.low.nz h
  obtain ⟨c1, c2, c3⟩ := fin (-top) (by omega) (by omega)
  obtain ⟨d1, _, d3⟩ := fin top (by omega) rfl
  simp only [x_if, x_test, x_B, x_op, x_un, x_varS, x_var0, x_c, x_I0, x_I, x_U, x_bl, x_ret, x_next, x_eqS, x_neS, x_m0, x_m1, x_isStr, x_SM, x_addT, x_slS, x_lenS, x_strI, x_mulS, x_startT, x_findT, x_preT, x_lstT, x_ascT, x_digT, x_jn, x_js0, x_js1, x_isS, x_fmt, x_fmtS, x_divW, x_truK, x_truS, x_raiseT, x_asg, x_name, x_set0, x_setS, x_drop, x_cb, x_cons, x_nil, x_int1, x_abs1, x_max2, x_gcd, x_gsub, x_sl, x_part, x_nopart, x_int, x_call, x_lst, x_tup, x_not, x_and, x_or, x_andV, x_orV, x_notV, x_ifE, x_eqI, x_neI, x_eqB, x_neB, x_tbm, x_never, x_make, x_meth, x_isII, x_isIC, x_bool1, decide_eq_true_eq, Bool.false_eq_true, if_false, if_true, List.append_nil, List.nil_append, List.cons_append]
  refine ite2 (fun _ => ?_) fun _ => ?_
  · refine ⟨c1, c2, by show 2 ≤ sizeLine; decide, fun p hp' => c3 p _ upd_same (PoolAt.same hp1 (Same.new hp')) (k1.new hp')⟩
  · refine ⟨d1, c2, by show 2 ≤ sizeLine; decide, fun p hp' => d3 p _ upd_same (PoolAt.same hp1 (Same.new hp')) (k1.new hp')⟩
theorem pure_ldrawn (vs : List V) (H : Hp) (Q : VK) (E : XK) (h : spLDrawn vs H Q E) : t_ldrawn P0 K mg C Z D BN PC VA BP f_place E { nx := fun _ H' => Q .non H', rt := Q } (start ["pool", "top", "low", "kind", "common"] vs) H := by
  obtain ⟨P, rfl, hp, k⟩ := h
  show t_ldrawn P0 K mg C Z D BN PC VA BP f_place E _ [some (.ref P), none, none, none, none] H
  unfold t_ldrawn
  rw [x_seq]
  simp only [x_if, x_test, x_B, x_op, x_un, x_varS, x_var0, x_c, x_I0, x_I, x_U, x_bl, x_ret, x_next, x_eqS, x_neS, x_m0, x_m1, x_isStr, x_SM, x_addT, x_slS, x_lenS, x_strI, x_mulS, x_startT, x_findT, x_preT, x_lstT, x_ascT, x_digT, x_jn, x_js0, x_js1, x_isS, x_fmt, x_fmtS, x_divW, x_truK, x_truS, x_raiseT, x_asg, x_name, x_set0, x_setS, x_drop, x_cb, x_cons, x_nil, x_int1, x_abs1, x_max2, x_gcd, x_gsub, x_sl, x_part, x_nopart, x_int, x_call, x_lst, x_tup, x_not, x_and, x_or, x_andV, x_orV, x_notV, x_ifE, x_eqI, x_neI, x_eqB, x_neB, x_tbm, x_never, x_make, x_meth, x_isII, x_isIC, x_bool1, decide_eq_true_eq, Bool.false_eq_true, if_false, if_true, List.append_nil, List.nil_append, List.cons_append]
  refine ⟨P, rfl, hp, fun top H1 hp1 k1 f1 => ?_⟩
  simp only [x_seq, x_if, x_test, x_B, x_op, x_un, x_varS, x_var0, x_c, x_I0, x_I, x_U, x_bl, x_ret, x_next, x_eqS, x_neS, x_m0, x_m1, x_isStr, x_SM, x_addT, x_slS, x_lenS, x_strI, x_mulS, x_startT, x_findT, x_preT, x_lstT, x_ascT, x_digT, x_jn, x_js0, x_js1, x_isS, x_fmt, x_fmtS, x_divW, x_truK, x_truS, x_raiseT, x_asg, x_name, x_set0, x_setS, x_drop, x_cb, x_cons, x_nil, x_int1, x_abs1, x_max2, x_gcd, x_gsub, x_sl, x_part, x_nopart, x_int, x_call, x_lst, x_tup, x_not, x_and, x_or, x_andV, x_orV, x_notV, x_ifE, x_eqI, x_neI, x_eqB, x_neB, x_tbm, x_never, x_make, x_meth, x_isII, x_isIC, x_bool1, decide_eq_true_eq, Bool.false_eq_true, if_false, if_true, List.append_nil, List.nil_append, List.cons_append]
  refine take_of (n := 31) hp1 (by decide) (.lit _ (by decide) (by decide) (by decide)) (by decide) fun kind H2 hp2 k2 _ _ => ?_
  simp only [x_if, x_test, x_B, x_op, x_un, x_varS, x_var0, x_c, x_I0, x_I, x_U, x_bl, x_ret, x_next, x_eqS, x_neS, x_m0, x_m1, x_isStr, x_SM, x_addT, x_slS, x_lenS, x_strI, x_mulS, x_startT, x_findT, x_preT, x_lstT, x_ascT, x_digT, x_jn, x_js0, x_js1, x_isS, x_fmt, x_fmtS, x_divW, x_truK, x_truS, x_raiseT, x_asg, x_name, x_set0, x_setS, x_drop, x_cb, x_cons, x_nil, x_int1, x_abs1, x_max2, x_gcd, x_gsub, x_sl, x_part, x_nopart, x_int, x_call, x_lst, x_tup, x_not, x_and, x_or, x_andV, x_orV, x_notV, x_ifE, x_eqI, x_neI, x_eqB, x_neB, x_tbm, x_never, x_make, x_meth, x_isII, x_isIC, x_bool1, decide_eq_true_eq, Bool.false_eq_true, if_false, if_true, List.append_nil, List.nil_append, List.cons_append]
  have one60 : (1 : Int).natAbs < 10 ^ 60 := by decide +kernel
  have tail : ∀ (top low : Int) (A : Option V) (H3 : Hp), 0 < top → 0 < low → top.natAbs < 10 ^ 60 → low.natAbs < 10 ^ 60 → PoolAt H3 P → Keep P H H3 → t_ldrawn_5 P0 K mg C Z D BN PC VA BP f_place E0 { nx := fun _ H' => Q .non H', rt := Q } [some (.ref P), some (.int top), some (.int low), A, none] H3 :=
    fun top low A H3 a b c d e f => tail_drawn a b c d e fun o H' t b ho hn hp' kp => k o H' t b ho hn hp' (f.trans kp)
  refine ite2 (fun _ => ?_) fun _ => ?_
  · refine ⟨P, rfl, hp2, fun low H3 hp3 k3 f3 => ?_⟩
    dsimp only
    rw [if_neg (by omega)]
    have z := tail top low (some (.int kind)) H3 f1.pos f3.pos f1.lt f3.lt hp3 ((k1.trans k2).trans k3)
    unfold t_ldrawn_5 at z
    simp only [x_seq, x_if, x_test, x_B, x_op, x_un, x_varS, x_var0, x_c, x_I0, x_I, x_U, x_bl, x_ret, x_next, x_eqS, x_neS, x_m0, x_m1, x_isStr, x_SM, x_addT, x_slS, x_lenS, x_strI, x_mulS, x_startT, x_findT, x_preT, x_lstT, x_ascT, x_digT, x_jn, x_js0, x_js1, x_isS, x_fmt, x_fmtS, x_divW, x_truK, x_truS, x_raiseT, x_asg, x_name, x_set0, x_setS, x_drop, x_cb, x_cons, x_nil, x_int1, x_abs1, x_max2, x_gcd, x_gsub, x_sl, x_part, x_nopart, x_int, x_call, x_lst, x_tup, x_not, x_and, x_or, x_andV, x_orV, x_notV, x_ifE, x_eqI, x_neI, x_eqB, x_neB, x_tbm, x_never, x_make, x_meth, x_isII, x_isIC, x_bool1, decide_eq_true_eq, Bool.false_eq_true, if_false, if_true, List.append_nil, List.nil_append, List.cons_append] at z
    exact z
  · refine ite2 (fun _ => ?_) fun _ => ?_
    · rw [p9]
      refine ⟨cp9, take_of (n := 30) hp2 (by decide) (by unfold Bd; decide) (by decide) fun r H3 hp3 k3 r0 r1 => ?_⟩
      have sm : (1 + r).natAbs < 10 ^ 60 := Nat.lt_of_lt_of_le (show (1 + r).natAbs < 10 ^ 10 by omega) (by decide +kernel)
      have z := tail (1 + r) top (some (.int kind)) H3 (by omega) f1.pos sm f1.lt hp3 ((k1.trans k2).trans k3)
      unfold t_ldrawn_5 at z
      simp only [x_seq, x_if, x_test, x_B, x_op, x_un, x_varS, x_var0, x_c, x_I0, x_I, x_U, x_bl, x_ret, x_next, x_eqS, x_neS, x_m0, x_m1, x_isStr, x_SM, x_addT, x_slS, x_lenS, x_strI, x_mulS, x_startT, x_findT, x_preT, x_lstT, x_ascT, x_digT, x_jn, x_js0, x_js1, x_isS, x_fmt, x_fmtS, x_divW, x_truK, x_truS, x_raiseT, x_asg, x_name, x_set0, x_setS, x_drop, x_cb, x_cons, x_nil, x_int1, x_abs1, x_max2, x_gcd, x_gsub, x_sl, x_part, x_nopart, x_int, x_call, x_lst, x_tup, x_not, x_and, x_or, x_andV, x_orV, x_notV, x_ifE, x_eqI, x_neI, x_eqB, x_neB, x_tbm, x_never, x_make, x_meth, x_isII, x_isIC, x_bool1, decide_eq_true_eq, Bool.false_eq_true, if_false, if_true, List.append_nil, List.nil_append, List.cons_append] at z
      simp only [x_seq, x_if, x_test, x_B, x_op, x_un, x_varS, x_var0, x_c, x_I0, x_I, x_U, x_bl, x_ret, x_next, x_eqS, x_neS, x_m0, x_m1, x_isStr, x_SM, x_addT, x_slS, x_lenS, x_strI, x_mulS, x_startT, x_findT, x_preT, x_lstT, x_ascT, x_digT, x_jn, x_js0, x_js1, x_isS, x_fmt, x_fmtS, x_divW, x_truK, x_truS, x_raiseT, x_asg, x_name, x_set0, x_setS, x_drop, x_cb, x_cons, x_nil, x_int1, x_abs1, x_max2, x_gcd, x_gsub, x_sl, x_part, x_nopart, x_int, x_call, x_lst, x_tup, x_not, x_and, x_or, x_andV, x_orV, x_notV, x_ifE, x_eqI, x_neI, x_eqB, x_neB, x_tbm, x_never, x_make, x_meth, x_isII, x_isIC, x_bool1, decide_eq_true_eq, Bool.false_eq_true, if_false, if_true, List.append_nil, List.nil_append, List.cons_append]
      exact z
    · have z := tail top 1 (some (.int kind)) H2 f1.pos (by decide) f1.lt one60 hp2 (k1.trans k2)
      unfold t_ldrawn_5 at z
      simp only [x_seq, x_if, x_test, x_B, x_op, x_un, x_varS, x_var0, x_c, x_I0, x_I, x_U, x_bl, x_ret, x_next, x_eqS, x_neS, x_m0, x_m1, x_isStr, x_SM, x_addT, x_slS, x_lenS, x_strI, x_mulS, x_startT, x_findT, x_preT, x_lstT, x_ascT, x_digT, x_jn, x_js0, x_js1, x_isS, x_fmt, x_fmtS, x_divW, x_truK, x_truS, x_raiseT, x_asg, x_name, x_set0, x_setS, x_drop, x_cb, x_cons, x_nil, x_int1, x_abs1, x_max2, x_gcd, x_gsub, x_sl, x_part, x_nopart, x_int, x_call, x_lst, x_tup, x_not, x_and, x_or, x_andV, x_orV, x_notV, x_ifE, x_eqI, x_neI, x_eqB, x_neB, x_tbm, x_never, x_make, x_meth, x_isII, x_isIC, x_bool1, decide_eq_true_eq, Bool.false_eq_true, if_false, if_true, List.append_nil, List.nil_append, List.cons_append] at z
      exact z
theorem takeB2 {P : Addr} {B : Addr → Prop} {most : Int} {H : Hp} {Q : VK} {E : XK} (hp : PoolB B H P) (hB : ∀ b, B b → ∃ o, H b = some o) (h1 : 1 ≤ most) (hb : Bd 31 most) (k : ∀ (r : Int) (H' : Hp), PoolB B H' P → Keep P H H' → 0 ≤ r → r < most → Q (.int r) H') : spTakeB [.ref P, .int most] H Q E :=
  ⟨P, most, B, rfl, hp, hB, big_of hb (by decide), fun r H' a b c d e => k r H' a b c (by
    by_cases h : 2 ≤ most
    · exact d h
    · rw [e (by omega)]
      omega)⟩
theorem for_rngT {ta : TA} {g : TG} {tb : TS} {D : Ends} {σ : L2.St} {H : Hp} (G : Int → Hp → Prop) (hv : ∀ QA : List V → Hp → Prop, (∀ j H', G j H' → QA [.int j] H') → ta σ H QA)
    (hb : ∀ j H', G j H' → (0 ≤ j ∧ j < 1000) ∧ ∃ Pv : Nat → L2.St → Hp → Prop, Pv 0 σ H' ∧ (∀ (i : Nat) σ H, (i : Int) < j → Pv i σ H → g (.int i) σ H fun σ2 H2 => tb { D with nx := Pv (i + 1), ct := Pv (i + 1), bk := D.nx } σ2 H2) ∧ ∀ σ H, Pv j.toNat σ H → D.nx σ H) : tFor (iRng1 ta) g tb D σ H := by
  show ta σ H _
  refine hv _ fun j H' hg => ?_
  obtain ⟨hj, Pv, h0, hs, hd⟩ := hb j H' hg
  refine ⟨j, rfl, by omega, by omega, for_range (lo := 0) (n := j.toNat) Pv h0 (fun i σ H hi h => ?_) hd⟩
  have := hs i σ H (by omega) h
  rwa [Int.zero_add]
theorem sum_set : ∀ (ns : List Int) (i : Nat) (z : Int), ns[i]? = some z → (ns.set i (z + 1)).sum = ns.sum + 1
  | [], _, _, h => by simp at h
  | a :: r, 0, z, h => by
    obtain rfl : a = z := by simpa using h
    simp only [List.set_cons_zero, List.sum_cons]
    omega
  | a :: r, i + 1, z, h => by
    have := sum_set r i z (by simpa using h)
    simp only [List.set_cons_succ, List.sum_cons, this]
    omega
theorem cut_zeros {r : Int} (h0 : 0 ≤ r) (h1 : r < 3) : ∃ ns : List Int, cutV [V.int 0, .int 0, .int 0] none (some (1 + r)) = ns.map V.int ∧ 1 ≤ ns.length ∧ ns.length ≤ 3 ∧ (∀ x ∈ ns, 0 ≤ x) ∧ ns.sum = 0 := by
  have : r = 0 ∨ r = 1 ∨ r = 2 := by omega
  rcases this with rfl | rfl | rfl
  · exact ⟨[0], rfl, by decide, by decide, by decide, by decide⟩
  · exact ⟨[0, 0], rfl, by decide, by decide, by decide, by decide⟩
  · exact ⟨[0, 0, 0], rfl, by decide, by decide, by decide, by decide⟩
theorem pure_lexps (vs : List V) (H : Hp) (Q : VK) (E : XK) (h : spLExps vs H Q E) : t_lexps P0 K mg C Z D BN PC VA BP f_place E { nx := fun _ H' => Q .non H', rt := Q } (start ["pool", "found", "k", "at"] vs) H := by
  obtain ⟨P, rfl, hp, k⟩ := h
  show t_lexps P0 K mg C Z D BN PC VA BP f_place E _ [some (.ref P), none, none, none] H
  unfold t_lexps
  rw [x_seq]
  simp only [x_if, x_test, x_B, x_op, x_un, x_varS, x_var0, x_c, x_I0, x_I, x_U, x_bl, x_ret, x_next, x_eqS, x_neS, x_m0, x_m1, x_isStr, x_SM, x_addT, x_slS, x_lenS, x_strI, x_mulS, x_startT, x_findT, x_preT, x_lstT, x_ascT, x_digT, x_jn, x_js0, x_js1, x_isS, x_fmt, x_fmtS, x_divW, x_truK, x_truS, x_raiseT, x_asg, x_name, x_set0, x_setS, x_drop, x_cb, x_cons, x_nil, x_int1, x_abs1, x_max2, x_gcd, x_gsub, x_sl, x_part, x_nopart, x_int, x_call, x_lst, x_tup, x_not, x_and, x_or, x_andV, x_orV, x_notV, x_ifE, x_eqI, x_neI, x_eqB, x_neB, x_tbm, x_never, x_make, x_meth, x_isII, x_isIC, x_bool1, decide_eq_true_eq, Bool.false_eq_true, if_false, if_true, List.append_nil, List.nil_append, List.cons_append]
  refine ⟨by decide, fun z hz => ?_⟩
  have ez : (upd H z (.lst [V.int 0, .int 0, .int 0])) z = some (.lst [V.int 0, .int 0, .int 0]) := upd_same
  have s0 : Same H (upd H z (.lst [V.int 0, .int 0, .int 0])) := Same.new hz
  generalize upd H z (.lst [V.int 0, .int 0, .int 0]) = H0 at ez s0 ⊢
  have zP : z ≠ P := by
    obtain ⟨xs, e⟩ := (hp.toB).there
    exact (ne_of_none e hz).symm
  refine takeB_of (n := 31) (B := fun _ => False) ((hp.same s0).toB) (fun _ q => q.elim) (by decide) (.lit _ (by decide) (by decide) (by decide)) (by decide) fun r H1 hp1 k1 r0 r1 => ?_
  have ez1 := k1 _ _ zP ez
  simp only [x_I0]
  refine ⟨_, rfl, ?_⟩
  rw [x_slA ez1]
  intro f hf
  obtain ⟨ns, en, n1, n3, nn, ns0⟩ := cut_zeros r0 r1
  rw [en]
  have hp2 := hp1.more (o := .lst (ns.map V.int)) hf
  have ef : (upd H1 f (.lst (ns.map V.int))) f = some (.lst (ns.map V.int)) := upd_same
  have k2 : Keep P H (upd H1 f (.lst (ns.map V.int))) := ((Keep.of s0).trans k1).new hf
  have hfH : H f = none := by
    cases e : H f with
    | none => rfl
    | some o =>
      have := k1 f o (fun z => by
        obtain ⟨xs, e1⟩ := hp1.there
        rw [← z, hf] at e1
        cases e1) (s0 _ _ e)
      rw [hf] at this
      cases this
  generalize upd H1 f (.lst (ns.map V.int)) = H2 at hp2 ef k2 ⊢
  have hp2 := hp2.less (B' := fun b => b = f) fun b hb => .inr hb
  have fP : f ≠ P := by
    obtain ⟨xs, e1⟩ := hp1.there
    exact (ne_of_none e1 hf).symm
  rw [x_seq]
  have hB : ∀ {H' : Hp} {o : HO}, H' f = some o → ∀ b, b = f → ∃ o, H' b = some o := fun e b hb => by subst hb; exact ⟨_, e⟩
  refine for_rngT (fun j H' => 1 ≤ j ∧ j ≤ 5 ∧ PoolB (fun b => b = f) H' P ∧ Keep P H2 H') (fun QA q => ?_) fun j H' hg => ?_
  · simp only [x_if, x_test, x_B, x_op, x_un, x_varS, x_var0, x_c, x_I0, x_I, x_U, x_bl, x_ret, x_next, x_eqS, x_neS, x_m0, x_m1, x_isStr, x_SM, x_addT, x_slS, x_lenS, x_strI, x_mulS, x_startT, x_findT, x_preT, x_lstT, x_ascT, x_digT, x_jn, x_js0, x_js1, x_isS, x_fmt, x_fmtS, x_divW, x_truK, x_truS, x_raiseT, x_asg, x_name, x_set0, x_setS, x_drop, x_cb, x_cons, x_nil, x_int1, x_abs1, x_max2, x_gcd, x_gsub, x_sl, x_part, x_nopart, x_int, x_call, x_lst, x_tup, x_not, x_and, x_or, x_andV, x_orV, x_notV, x_ifE, x_eqI, x_neI, x_eqB, x_neB, x_tbm, x_never, x_make, x_meth, x_isII, x_isIC, x_bool1, decide_eq_true_eq, Bool.false_eq_true, if_false, if_true, List.append_nil, List.nil_append, List.cons_append]
    refine takeB_of (n := 31) hp2 (hB ef) (by decide) (.lit _ (by decide) (by decide) (by decide)) (by decide) fun r H3 hp3 k3 r0 r1 => ?_
    simp only [x_if, x_test, x_B, x_op, x_un, x_varS, x_var0, x_c, x_I0, x_I, x_U, x_bl, x_ret, x_next, x_eqS, x_neS, x_m0, x_m1, x_isStr, x_SM, x_addT, x_slS, x_lenS, x_strI, x_mulS, x_startT, x_findT, x_preT, x_lstT, x_ascT, x_digT, x_jn, x_js0, x_js1, x_isS, x_fmt, x_fmtS, x_divW, x_truK, x_truS, x_raiseT, x_asg, x_name, x_set0, x_setS, x_drop, x_cb, x_cons, x_nil, x_int1, x_abs1, x_max2, x_gcd, x_gsub, x_sl, x_part, x_nopart, x_int, x_call, x_lst, x_tup, x_not, x_and, x_or, x_andV, x_orV, x_notV, x_ifE, x_eqI, x_neI, x_eqB, x_neB, x_tbm, x_never, x_make, x_meth, x_isII, x_isIC, x_bool1, decide_eq_true_eq, Bool.false_eq_true, if_false, if_true, List.append_nil, List.nil_append, List.cons_append]
    exact q _ _ ⟨by omega, by omega, hp3, k3⟩
  obtain ⟨j1, j5, hp3, k3⟩ := hg
  refine ⟨by omega, fun i σ H4 => ∃ (A B : Option V) (ms : List Int), σ = [some (.ref P), some (.ref f), A, B] ∧ PoolB (fun b => b = f) H4 P ∧ Keep P H H4 ∧ H4 f = some (.lst (ms.map V.int)) ∧ ms.length = ns.length ∧ (∀ x ∈ ms, 0 ≤ x) ∧ ms.sum = (i : Int), ⟨none, none, ns, rfl, hp3, k2.trans k3, k3 _ _ fP ef, rfl, nn, by rw [ns0]; rfl⟩, ?_, ?_⟩
  · rintro i σ H4 hi ⟨A, B, ms, rfl, hp4, k4, ef4, lm, mn, ms4⟩
    simp only [x_seq, x_if, x_test, x_B, x_op, x_un, x_varS, x_var0, x_c, x_I0, x_I, x_U, x_bl, x_ret, x_next, x_eqS, x_neS, x_m0, x_m1, x_isStr, x_SM, x_addT, x_slS, x_lenS, x_strI, x_mulS, x_startT, x_findT, x_preT, x_lstT, x_ascT, x_digT, x_jn, x_js0, x_js1, x_isS, x_fmt, x_fmtS, x_divW, x_truK, x_truS, x_raiseT, x_asg, x_name, x_set0, x_setS, x_drop, x_cb, x_cons, x_nil, x_int1, x_abs1, x_max2, x_gcd, x_gsub, x_sl, x_part, x_nopart, x_int, x_call, x_lst, x_tup, x_not, x_and, x_or, x_andV, x_orV, x_notV, x_ifE, x_eqI, x_neI, x_eqB, x_neB, x_tbm, x_never, x_make, x_meth, x_isII, x_isIC, x_bool1, decide_eq_true_eq, Bool.false_eq_true, if_false, if_true, List.append_nil, List.nil_append, List.cons_append, x_lenA ef4, List.length_map]
    refine takeB2 hp4 (hB ef4) (by omega) (.lit _ (by omega) (by omega) (by decide)) fun a H5 hp5 k5 a0 a1 => ?_
    have ef5 := k5 _ _ fP ef4
    obtain ⟨z, hz'⟩ : ∃ z, ms[a.toNat]? = some z := ⟨_, List.getElem?_eq_getElem (by omega)⟩
    have ai : atI (ms.map V.int) a = some (.int z) := by
      have ea : a = ((a.toNat : Nat) : Int) := by omega
      rw [ea, atI_nat (v := .int z) (by rw [List.getElem?_map, hz']; rfl)]
    have ix : ixN (ms.map V.int).length a = some a.toNat := by
      have lt : a < ((ms.map V.int).length : Int) := by rw [List.length_map]; exact a1
      unfold ixN
      rw [if_pos a0, if_pos lt]
    simp only [x_if, x_test, x_B, x_op, x_un, x_varS, x_var0, x_c, x_I0, x_I, x_U, x_bl, x_ret, x_next, x_eqS, x_neS, x_m0, x_m1, x_isStr, x_SM, x_addT, x_slS, x_lenS, x_strI, x_mulS, x_startT, x_findT, x_preT, x_lstT, x_ascT, x_digT, x_jn, x_js0, x_js1, x_isS, x_fmt, x_fmtS, x_divW, x_truK, x_truS, x_raiseT, x_asg, x_name, x_set0, x_setS, x_drop, x_cb, x_cons, x_nil, x_int1, x_abs1, x_max2, x_gcd, x_gsub, x_sl, x_part, x_nopart, x_int, x_call, x_lst, x_tup, x_not, x_and, x_or, x_andV, x_orV, x_notV, x_ifE, x_eqI, x_neI, x_eqB, x_neB, x_tbm, x_never, x_make, x_meth, x_isII, x_isIC, x_bool1, decide_eq_true_eq, Bool.false_eq_true, if_false, if_true, List.append_nil, List.nil_append, List.cons_append, x_ix ef5 ai, x_setL ef5 ix]
    refine ⟨_, _, ms.set a.toNat (z + 1), rfl, hp5.put rfl fP, fun c o hc ec => ?_, by rw [upd_same, List.map_set], by rw [List.length_set]; exact lm, fun x hx => ?_, by rw [sum_set _ _ _ hz', ms4]; simp⟩
    · rw [upd_ne (ne_of_none ec hfH)]
      exact (k4.trans k5) c o hc ec
    · rcases List.mem_or_eq_of_mem_set hx with h | rfl
      · exact mn x h
      · have := mn z (List.mem_of_getElem? hz')
        omega
  · rintro σ H4 ⟨A, B, ms, rfl, hp4, k4, ef4, lm, mn, ms4⟩
    simp only [x_seq, x_if, x_test, x_B, x_op, x_un, x_varS, x_var0, x_c, x_I0, x_I, x_U, x_bl, x_ret, x_next, x_eqS, x_neS, x_m0, x_m1, x_isStr, x_SM, x_addT, x_slS, x_lenS, x_strI, x_mulS, x_startT, x_findT, x_preT, x_lstT, x_ascT, x_digT, x_jn, x_js0, x_js1, x_isS, x_fmt, x_fmtS, x_divW, x_truK, x_truS, x_raiseT, x_asg, x_name, x_set0, x_setS, x_drop, x_cb, x_cons, x_nil, x_int1, x_abs1, x_max2, x_gcd, x_gsub, x_sl, x_part, x_nopart, x_int, x_call, x_lst, x_tup, x_not, x_and, x_or, x_andV, x_orV, x_notV, x_ifE, x_eqI, x_neI, x_eqB, x_neB, x_tbm, x_never, x_make, x_meth, x_isII, x_isIC, x_bool1, decide_eq_true_eq, Bool.false_eq_true, if_false, if_true, List.append_nil, List.nil_append, List.cons_append, x_tupL ef4]
    intro e he
    refine k e ms _ upd_same ⟨by omega, by omega, mn, by omega⟩ (by omega) (by omega) ?_ (k4.new he)
    exact (PoolB.same (hp4.less (B' := fun _ => False) fun _ q => q.elim) (Same.new he)).at
end
end SpX

set_option Elab.async false
set_option linter.all false
set_option maxRecDepth 100000
set_option maxHeartbeats 2000000
set_option exponentiation.threshold 20000
/-! k65: the law's texts. -/
namespace SpX
open PySem PySem.Spec NumText L2 StX RZ
open TL (tl)
def spLText : Sp := fun vs H Q _ => ∃ n : Nat, vs = [.int (n : Int)] ∧ n < 10 ^ 5400 ∧ ∀ (y : Str) (H' : Hp), tl y = numD n → Same H H' → Q (.str y) H'
def spLWritten : Sp := fun vs H Q _ => ∃ (o : Addr) (t b : Int), vs = [.ref o] ∧ TupAt H o t b ∧ 0 < b ∧ t.natAbs < 10 ^ 5400 ∧ b.natAbs < 10 ^ 5400 ∧ ∀ (y : Str) (H' : Hp), tl y = written t b → Same H H' → Q (.str y) H'
def spLTerm : Sp := fun vs H Q _ => ∃ a m : Str, vs = [.str a, .str m] ∧ a.length ≤ 20000 ∧ m.length ≤ 20000 ∧ ∀ y : Str, tl y = (if tl a = [49] then tl m else if tl a = [45, 49] then [45] ++ tl m else tl a ++ ([32] ++ tl m)) → Q (.str y) H
def spLDue : Sp := fun vs H Q _ => ∃ (o : Addr) (t b n : Int), vs = [.ref o, .int n] ∧ TupAt H o t b ∧ 0 ≤ n ∧ n ≤ 90 ∧ t.natAbs < 10 ^ 60 ∧ b.natAbs < 10 ^ 60 ∧ ∀ (d : Addr) (H' : Hp), TupAt H' d (t ^ n.toNat) (b ^ n.toNat) → Same H H' → Q (.ref d) H'
def spLIs (C : Addr) : Sp := fun vs H Q _ => ∃ (p o : Addr) (t b : Int), vs = [.ref p, .ref o] ∧ RatAt C H p t b ∧ TupAt H o t b ∧ Q (.bl true) H
def t_ltext (P : Program) (K : PySem.W.Frag) (mg : Str → Option Value) (C Z D BN PC VA BP f_place : Addr) (E : XK) : TS :=
    (tSeq (tAsg (tLst tNil) (gName 1))
    (tSeq (tAsg (tVar 0) (gName 2))
    (tSeq (tFor (iRng1 (tCons (tC (.int 200)) tNil)) (gName 3) ((tIfS (tTest (tOp (rI0 fun i j => .bl (decide (j ≤ i))) (tVar 2) (tOp (rI CPow fun i j => .int (i ^ j.toNat)) (tC (.int 10)) (tC (.int 60))))) (tSeq (tDrop (tBM K "list" rAppend (tVar 1) (tCons (tM1 rZfT (tCB rStrI (tCons (tOp (rI (fun _ j => 0 < j) fun i j => .int (i % j)) (tCB rInt1 (tCons (tVar 2) tNil)) (tOp (rI CPow fun i j => .int (i ^ j.toNat)) (tC (.int 10)) (tC (.int 60)))) tNil)) (tC (.int 60))) tNil)))
    (tAsg (tOp (rI CDivF fun i j => .int (i.fdiv j)) (tVar 2) (tOp (rI CPow fun i j => .int (i ^ j.toNat)) (tC (.int 10)) (tC (.int 60)))) (gName 2))) tNext)))
    (tSeq (tDrop (tBM K "list" rAppend (tVar 1) (tCons (tCB rStrI (tCons (tVar 2) tNil)) tNil)))
    (tRet (tM1 (rJoinT K) (tC (.str "")) (tRevL K (tVar 1))))))))
def t_lwritten (P : Program) (K : PySem.W.Frag) (mg : Str → Option Value) (C Z D BN PC VA BP f_place : Addr) (E : XK) : TS :=
    (tSeq (tAsg (tCall spLText [] E0 (tCons (tCB rAbs1 (tCons (tOp rIx1 (tVar 0) (tC (.int 0))) tNil)) tNil)) (gName 1))
    (tSeq (tIfS (tTest (tOp (rI0 fun i j => .bl (decide (i < j))) (tOp rIx1 (tVar 0) (tC (.int 0))) (tC (.int 0)))) (tAsg (tOp rAddT (tC (.str "-")) (tVar 1)) (gName 1)) tNext)
    (tSeq (tIfS (tTest (tOp rEq (tOp rIx1 (tVar 0) (tC (.int 1))) (tC (.int 1)))) (tRet (tVar 1)) tNext)
    (tRet (tOp rAddT (tOp rAddT (tVar 1) (tC (.str "/"))) (tCall spLText [] E0 (tCons (tOp rIx1 (tVar 0) (tC (.int 1))) tNil)))))))
def t_lterm (P : Program) (K : PySem.W.Frag) (mg : Str → Option Value) (C Z D BN PC VA BP f_place : Addr) (E : XK) : TS :=
    (tSeq (tIfS (tTest (tOp rEq (tVar 0) (tC (.str "1")))) (tRet (tVar 1)) tNext)
    (tSeq (tIfS (tTest (tOp rEq (tVar 0) (tC (.str "-1")))) (tRet (tOp rAddT (tC (.str "-")) (tVar 1))) tNext)
    (tRet (tOp rAddT (tOp rAddT (tVar 0) (tC (.str " "))) (tVar 1)))))
def t_ldue (P : Program) (K : PySem.W.Frag) (mg : Str → Option Value) (C Z D BN PC VA BP f_place : Addr) (E : XK) : TS :=
    (tSeq (tAsg (tTup (tCons (tC (.int 1)) (tCons (tC (.int 1)) tNil))) (gName 2))
    (tSeq (tFor (iRng1 (tCons (tVar 1) tNil)) (gName 3) ((tAsg (tTup (tCons (tOp (rI IntMulOk fun i j => .int (i * j)) (tOp rIx1 (tVar 2) (tC (.int 0))) (tOp rIx1 (tVar 0) (tC (.int 0)))) (tCons (tOp (rI IntMulOk fun i j => .int (i * j)) (tOp rIx1 (tVar 2) (tC (.int 1))) (tOp rIx1 (tVar 0) (tC (.int 1)))) tNil))) (gName 2))))
    (tRet (tVar 2))))
def t_lis (P : Program) (K : PySem.W.Frag) (mg : Str → Option Value) (C Z D BN PC VA BP f_place : Addr) (E : XK) : TS :=
    (tSeq (tIfS (tOr (tNot (tB (tCB (rIsA C) (tCons (tVar 0) (tCons (tC (.ref C)) tNil))))) (tOr (tNot (tB (tCall spInteger [] E0 (tCons (tUn (rFld C "top") (tVar 0)) tNil)))) (tNot (tB (tCall spInteger [] E0 (tCons (tUn (rFld C "bottom") (tVar 0)) tNil)))))) (tRet (tC (.bl false))) tNext)
    (tRet (tAndV (tOp rEq (tUn (rFld C "top") (tVar 0)) (tOp rIx1 (tVar 1) (tC (.int 0)))) (tOp rEq (tUn (rFld C "bottom") (tVar 0)) (tOp rIx1 (tVar 1) (tC (.int 1)))))))
section
variable {P0 : Program} {K : PySem.W.Frag} {mg : Str → Option Value} {C Z D BN PC VA BP f_place : Addr}
theorem tl_one : tl "1" = [49] := by decide +kernel
theorem tl_mone : tl "-1" = [45, 49] := by decide +kernel
theorem tl_dash : tl "-" = [45] := by decide +kernel
theorem tl_sp : tl " " = [32] := by decide +kernel
theorem pure_lterm (vs : List V) (H : Hp) (Q : VK) (E : XK) (h : spLTerm vs H Q E) : t_lterm P0 K mg C Z D BN PC VA BP f_place E { nx := fun _ H' => Q .non H', rt := Q } (start ["text", "letters"] vs) H := by
  obtain ⟨a, m, rfl, la, lm, k⟩ := h
  show t_lterm P0 K mg C Z D BN PC VA BP f_place E _ [some (.str a), some (.str m)] H
  have big : ∀ n : Nat, n ≤ 100000 → n ≤ sizeLine := fun n hn => Nat.le_trans hn (by decide)
  have l1 : ("-" : Str).length = 1 := by decide +kernel
  have l2 : (" " : Str).length = 1 := by decide +kernel
  unfold t_lterm
  simp only [x_seq, x_if, x_test, x_B, x_op, x_un, x_varS, x_var0, x_c, x_I0, x_I, x_U, x_bl, x_ret, x_next, x_eqS, x_neS, x_m0, x_m1, x_isStr, x_SM, x_addT, x_slS, x_lenS, x_strI, x_mulS, x_startT, x_findT, x_preT, x_lstT, x_ascT, x_digT, x_jn, x_js0, x_js1, x_isS, x_fmt, x_fmtS, x_divW, x_truK, x_truS, x_raiseT, x_asg, x_name, x_set0, x_setS, x_drop, x_cb, x_cons, x_nil, x_int1, x_abs1, x_max2, x_gcd, x_gsub, x_sl, x_part, x_nopart, x_int, x_call, x_lst, x_tup, x_not, x_and, x_or, x_andV, x_orV, x_notV, x_ifE, x_eqI, x_neI, x_eqB, x_neB, x_tbm, x_never, x_make, x_meth, x_isII, x_isIC, x_bool1, decide_eq_true_eq, Bool.false_eq_true, if_false, if_true, List.append_nil, List.nil_append, List.cons_append, decide_eq_true_eq]
  refine ite2 (fun h1 => ?_) fun h1 => ?_
  · exact k m (by rw [h1, tl_one, if_pos rfl])
  · have n1 : tl a ≠ [49] := fun z => h1 (TL.ext_tl (z.trans tl_one.symm))
    rw [if_neg n1] at k
    refine ite2 (fun h2 => ?_) fun h2 => ?_
    · refine ⟨big _ (by omega), k _ (by rw [h2, tl_mone, if_pos rfl, TL.tl_append, tl_dash])⟩
    · have n2 : tl a ≠ [45, 49] := fun z => h2 (TL.ext_tl (z.trans tl_mone.symm))
      rw [if_neg n2] at k
      refine ⟨big _ (by omega), big _ ?_, k _ (by rw [TL.tl_append, TL.tl_append, tl_sp, List.append_assoc])⟩
      rw [add_len]
      omega
theorem pure_lis (IO : IsaOk K C) (vs : List V) (H : Hp) (Q : VK) (E : XK) (h : spLIs C vs H Q E) : t_lis P0 K mg C Z D BN PC VA BP f_place E { nx := fun _ H' => Q .non H', rt := Q } (start ["told", "pair"] vs) H := by
  obtain ⟨p, o, t, b, rfl, ⟨dx, hp⟩, ho, k⟩ := h
  show t_lis P0 K mg C Z D BN PC VA BP f_place E _ [some (.ref p), some (.ref o)] H
  unfold t_lis
  simp only [x_seq, x_if, x_test, x_B, x_op, x_un, x_varS, x_var0, x_c, x_I0, x_I, x_U, x_bl, x_ret, x_next, x_eqS, x_neS, x_m0, x_m1, x_isStr, x_SM, x_addT, x_slS, x_lenS, x_strI, x_mulS, x_startT, x_findT, x_preT, x_lstT, x_ascT, x_digT, x_jn, x_js0, x_js1, x_isS, x_fmt, x_fmtS, x_divW, x_truK, x_truS, x_raiseT, x_asg, x_name, x_set0, x_setS, x_drop, x_cb, x_cons, x_nil, x_int1, x_abs1, x_max2, x_gcd, x_gsub, x_sl, x_part, x_nopart, x_int, x_call, x_lst, x_tup, x_not, x_and, x_or, x_andV, x_orV, x_notV, x_ifE, x_eqI, x_neI, x_eqB, x_neB, x_tbm, x_never, x_make, x_meth, x_isII, x_isIC, x_bool1, decide_eq_true_eq, Bool.false_eq_true, if_false, if_true, List.append_nil, List.nil_append, List.cons_append, x_isRC hp, x_top hp, x_bot hp, x_ixT ho at0, x_ixT ho at1]
  rw [if_neg (by decide)]
  refine ⟨t, rfl, true, rfl, ?_⟩
  rw [if_neg (by decide)]
  simp only [x_bot hp]
  refine ⟨b, rfl, true, rfl, ?_⟩
  rw [if_neg (by decide)]
  simp only [x_if, x_test, x_B, x_op, x_un, x_varS, x_var0, x_c, x_I0, x_I, x_U, x_bl, x_ret, x_next, x_eqS, x_neS, x_m0, x_m1, x_isStr, x_SM, x_addT, x_slS, x_lenS, x_strI, x_mulS, x_startT, x_findT, x_preT, x_lstT, x_ascT, x_digT, x_jn, x_js0, x_js1, x_isS, x_fmt, x_fmtS, x_divW, x_truK, x_truS, x_raiseT, x_asg, x_name, x_set0, x_setS, x_drop, x_cb, x_cons, x_nil, x_int1, x_abs1, x_max2, x_gcd, x_gsub, x_sl, x_part, x_nopart, x_int, x_call, x_lst, x_tup, x_not, x_and, x_or, x_andV, x_orV, x_notV, x_ifE, x_eqI, x_neI, x_eqB, x_neB, x_tbm, x_never, x_make, x_meth, x_isII, x_isIC, x_bool1, decide_eq_true_eq, Bool.false_eq_true, if_false, if_true, List.append_nil, List.nil_append, List.cons_append, x_top hp, x_bot hp, x_ixT ho at0, x_ixT ho at1, decide_true]
  exact k
theorem pow60 {t : Int} (h : t.natAbs < 10 ^ 60) (i : Nat) : Bd (200 * i + 1) (t ^ i) := by
  unfold Bd
  rw [Int.natAbs_pow]
  have h1 : t.natAbs ^ i ≤ (2 ^ 200) ^ i := Nat.pow_le_pow_left (Nat.le_of_lt (Nat.lt_of_lt_of_le h (by decide +kernel))) i
  rw [← Nat.pow_mul] at h1
  exact Nat.lt_of_le_of_lt h1 (Nat.pow_lt_pow_right (by decide) (by omega))
theorem pure_ldue (vs : List V) (H : Hp) (Q : VK) (E : XK) (h : spLDue vs H Q E) : t_ldue P0 K mg C Z D BN PC VA BP f_place E { nx := fun _ H' => Q .non H', rt := Q } (start ["pair", "count", "found", "k"] vs) H := by
  obtain ⟨o, t, b, n, rfl, ho, n0, n90, ht, hb, k⟩ := h
  show t_ldue P0 K mg C Z D BN PC VA BP f_place E _ [some (.ref o), some (.int n), none, none] H
  unfold t_ldue
  rw [x_seq]
  simp only [x_if, x_test, x_B, x_op, x_un, x_varS, x_var0, x_c, x_I0, x_I, x_U, x_bl, x_ret, x_next, x_eqS, x_neS, x_m0, x_m1, x_isStr, x_SM, x_addT, x_slS, x_lenS, x_strI, x_mulS, x_startT, x_findT, x_preT, x_lstT, x_ascT, x_digT, x_jn, x_js0, x_js1, x_isS, x_fmt, x_fmtS, x_divW, x_truK, x_truS, x_raiseT, x_asg, x_name, x_set0, x_setS, x_drop, x_cb, x_cons, x_nil, x_int1, x_abs1, x_max2, x_gcd, x_gsub, x_sl, x_part, x_nopart, x_int, x_call, x_lst, x_tup, x_not, x_and, x_or, x_andV, x_orV, x_notV, x_ifE, x_eqI, x_neI, x_eqB, x_neB, x_tbm, x_never, x_make, x_meth, x_isII, x_isIC, x_bool1, decide_eq_true_eq, Bool.false_eq_true, if_false, if_true, List.append_nil, List.nil_append, List.cons_append]
  refine ⟨by show 2 ≤ sizeLine; decide, fun f hf => ?_⟩
  have e0 : TupAt (upd H f (.tup [.int 1, .int 1])) f 1 1 := upd_same
  have s0 : Same H (upd H f (.tup [.int 1, .int 1])) := Same.new hf
  generalize upd H f (.tup [.int 1, .int 1]) = H0 at e0 s0 ⊢
  rw [x_seq]
  refine for_rngV (j := n) (fun Q => by simp only [x_seq, x_if, x_test, x_B, x_op, x_un, x_varS, x_var0, x_c, x_I0, x_I, x_U, x_bl, x_ret, x_next, x_eqS, x_neS, x_m0, x_m1, x_isStr, x_SM, x_addT, x_slS, x_lenS, x_strI, x_mulS, x_startT, x_findT, x_preT, x_lstT, x_ascT, x_digT, x_jn, x_js0, x_js1, x_isS, x_fmt, x_fmtS, x_divW, x_truK, x_truS, x_raiseT, x_asg, x_name, x_set0, x_setS, x_drop, x_cb, x_cons, x_nil, x_int1, x_abs1, x_max2, x_gcd, x_gsub, x_sl, x_part, x_nopart, x_int, x_call, x_lst, x_tup, x_not, x_and, x_or, x_andV, x_orV, x_notV, x_ifE, x_eqI, x_neI, x_eqB, x_neB, x_tbm, x_never, x_make, x_meth, x_isII, x_isIC, x_bool1, decide_eq_true_eq, Bool.false_eq_true, if_false, if_true, List.append_nil, List.nil_append, List.cons_append]) (by omega) (fun i σ H' => Same H H' ∧ ∃ (d : Addr) (A : Option V), σ = [some (.ref o), some (.int n), some (.ref d), A] ∧ TupAt H' d (t ^ i) (b ^ i)) ⟨s0, f, none, rfl, by simpa using e0⟩ ?_ ?_
  · rintro i σ H' hi ⟨s, d, A, rfl, hd⟩
    have ho' : TupAt H' o t b := s _ _ ho
    simp only [x_seq, x_if, x_test, x_B, x_op, x_un, x_varS, x_var0, x_c, x_I0, x_I, x_U, x_bl, x_ret, x_next, x_eqS, x_neS, x_m0, x_m1, x_isStr, x_SM, x_addT, x_slS, x_lenS, x_strI, x_mulS, x_startT, x_findT, x_preT, x_lstT, x_ascT, x_digT, x_jn, x_js0, x_js1, x_isS, x_fmt, x_fmtS, x_divW, x_truK, x_truS, x_raiseT, x_asg, x_name, x_set0, x_setS, x_drop, x_cb, x_cons, x_nil, x_int1, x_abs1, x_max2, x_gcd, x_gsub, x_sl, x_part, x_nopart, x_int, x_call, x_lst, x_tup, x_not, x_and, x_or, x_andV, x_orV, x_notV, x_ifE, x_eqI, x_neI, x_eqB, x_neB, x_tbm, x_never, x_make, x_meth, x_isII, x_isIC, x_bool1, decide_eq_true_eq, Bool.false_eq_true, if_false, if_true, List.append_nil, List.nil_append, List.cons_append, x_ixT hd at0, x_ixT hd at1, x_ixT ho' at0, x_ixT ho' at1]
    have bt := pow60 ht i
    have bb := pow60 hb i
    have t1 : Bd 200 t := Nat.lt_of_lt_of_le ht (by decide +kernel)
    have b1 : Bd 200 b := Nat.lt_of_lt_of_le hb (by decide +kernel)
    refine ⟨bt.ok t1 (by omega) (by decide) (by omega), bb.ok b1 (by omega) (by decide) (by omega), by show 2 ≤ sizeLine; decide, fun p hp => ⟨Same.new' s hp, p, _, rfl, ?_⟩⟩
    show _ = some (HO.tup _)
    rw [upd_same, Int.pow_succ, Int.pow_succ]
  · rintro σ H' ⟨s, d, A, rfl, hd⟩
    simp only [x_seq, x_if, x_test, x_B, x_op, x_un, x_varS, x_var0, x_c, x_I0, x_I, x_U, x_bl, x_ret, x_next, x_eqS, x_neS, x_m0, x_m1, x_isStr, x_SM, x_addT, x_slS, x_lenS, x_strI, x_mulS, x_startT, x_findT, x_preT, x_lstT, x_ascT, x_digT, x_jn, x_js0, x_js1, x_isS, x_fmt, x_fmtS, x_divW, x_truK, x_truS, x_raiseT, x_asg, x_name, x_set0, x_setS, x_drop, x_cb, x_cons, x_nil, x_int1, x_abs1, x_max2, x_gcd, x_gsub, x_sl, x_part, x_nopart, x_int, x_call, x_lst, x_tup, x_not, x_and, x_or, x_andV, x_orV, x_notV, x_ifE, x_eqI, x_neI, x_eqB, x_neB, x_tbm, x_never, x_make, x_meth, x_isII, x_isIC, x_bool1, decide_eq_true_eq, Bool.false_eq_true, if_false, if_true, List.append_nil, List.nil_append, List.cons_append]
    exact k d H' hd s
theorem p60' : (10 : Int) ^ (60 : Int).toNat = ((10 ^ 60 : Nat) : Int) := p60
theorem tl_zf60 (b : Nat) : tl (Txt.zfill (Str.ofString (toString ((b : Nat) : Int))) 60) = padD 60 b := by
  have e : tl (Str.ofString (toString ((b : Nat) : Int))) = numD b := by rw [tl_int, intD_nat]
  have h := tl_zfill (x := Str.ofString (toString ((b : Nat) : Int))) (by rw [e]; exact num_dig b) 60
  rw [e] at h
  exact h
theorem num_split {n k : Nat} (hk : 0 < k) (h : 10 ^ k ≤ n) : numD n = numD (n / 10 ^ k) ++ padD k (n % 10 ^ k) := by
  have hp : 0 < 10 ^ k := Nat.pow_pos (by decide)
  have h1 : 1 ≤ n / 10 ^ k := (Nat.one_le_div_iff hp).mpr h
  have := num_pad (q := n / 10 ^ k) (k := k) (r := n % 10 ^ k) h1 hk (Nat.mod_lt _ hp)
  rw [← this]
  congr 1
  have := Nat.div_add_mod n (10 ^ k)
  rw [Nat.mul_comm] at this
  exact this.symm
theorem pure_ltext (vs : List V) (H : Hp) (Q : VK) (E : XK) (h : spLText vs H Q E) : t_ltext P0 K mg C Z D BN PC VA BP f_place E { nx := fun _ H' => Q .non H', rt := Q } (start ["number", "pieces", "left", "k"] vs) H := by
  obtain ⟨n, rfl, hn, k⟩ := h
  show t_ltext P0 K mg C Z D BN PC VA BP f_place E _ [some (.int (n : Int)), none, none, none] H
  unfold t_ltext
  rw [x_seq]
  simp only [x_if, x_test, x_B, x_op, x_un, x_varS, x_var0, x_c, x_I0, x_I, x_U, x_bl, x_ret, x_next, x_eqS, x_neS, x_m0, x_m1, x_isStr, x_SM, x_addT, x_slS, x_lenS, x_strI, x_mulS, x_startT, x_findT, x_preT, x_lstT, x_ascT, x_digT, x_jn, x_js0, x_js1, x_isS, x_fmt, x_fmtS, x_divW, x_truK, x_truS, x_raiseT, x_asg, x_name, x_set0, x_setS, x_drop, x_cb, x_cons, x_nil, x_int1, x_abs1, x_max2, x_gcd, x_gsub, x_sl, x_part, x_nopart, x_int, x_call, x_lst, x_tup, x_not, x_and, x_or, x_andV, x_orV, x_notV, x_ifE, x_eqI, x_neI, x_eqB, x_neB, x_tbm, x_never, x_make, x_meth, x_isII, x_isIC, x_bool1, decide_eq_true_eq, Bool.false_eq_true, if_false, if_true, List.append_nil, List.nil_append, List.cons_append]
  refine ⟨by decide, fun w hw => ?_⟩
  have e0 : (upd H w (.lst [])) w = some (.lst []) := upd_same
  have s0 : Same H (upd H w (.lst [])) := Same.new hw
  generalize upd H w (.lst []) = H0 at e0 s0 ⊢
  simp only [x_seq, x_if, x_test, x_B, x_op, x_un, x_varS, x_var0, x_c, x_I0, x_I, x_U, x_bl, x_ret, x_next, x_eqS, x_neS, x_m0, x_m1, x_isStr, x_SM, x_addT, x_slS, x_lenS, x_strI, x_mulS, x_startT, x_findT, x_preT, x_lstT, x_ascT, x_digT, x_jn, x_js0, x_js1, x_isS, x_fmt, x_fmtS, x_divW, x_truK, x_truS, x_raiseT, x_asg, x_name, x_set0, x_setS, x_drop, x_cb, x_cons, x_nil, x_int1, x_abs1, x_max2, x_gcd, x_gsub, x_sl, x_part, x_nopart, x_int, x_call, x_lst, x_tup, x_not, x_and, x_or, x_andV, x_orV, x_notV, x_ifE, x_eqI, x_neI, x_eqB, x_neB, x_tbm, x_never, x_make, x_meth, x_isII, x_isIC, x_bool1, decide_eq_true_eq, Bool.false_eq_true, if_false, if_true, List.append_nil, List.nil_append, List.cons_append]
  refine for_rngC (by decide) (fun i σ H' => ∃ (m : Nat) (A : Option V) (ys : List Str), σ = [some (.int (n : Int)), some (.ref w), some (.int (m : Int)), A] ∧ Same H H' ∧ H' w = some (.lst (ys.map V.str)) ∧ numD n = numD m ++ (ys.reverse.map tl).flatten ∧ ys.length ≤ i ∧ (∀ y ∈ ys, y.length = 60) ∧ m * 10 ^ (60 * ys.length) ≤ n ∧ (m < 10 ^ 60 ∨ ys.length = i)) ⟨n, none, [], rfl, s0, e0, by simp, by simp, by simp, by simp, .inr rfl⟩ (fun i σ H' hi s => ?_) fun σ H' s => ?_
  · obtain ⟨m, A, ys, rfl, s, hws, hd, ly, l60, hm, hor⟩ := s
    simp only [x_seq, x_if, x_test, x_B, x_op, x_un, x_varS, x_var0, x_c, x_I0, x_I, x_U, x_bl, x_ret, x_next, x_eqS, x_neS, x_m0, x_m1, x_isStr, x_SM, x_addT, x_slS, x_lenS, x_strI, x_mulS, x_startT, x_findT, x_preT, x_lstT, x_ascT, x_digT, x_jn, x_js0, x_js1, x_isS, x_fmt, x_fmtS, x_divW, x_truK, x_truS, x_raiseT, x_asg, x_name, x_set0, x_setS, x_drop, x_cb, x_cons, x_nil, x_int1, x_abs1, x_max2, x_gcd, x_gsub, x_sl, x_part, x_nopart, x_int, x_call, x_lst, x_tup, x_not, x_and, x_or, x_andV, x_orV, x_notV, x_ifE, x_eqI, x_neI, x_eqB, x_neB, x_tbm, x_never, x_make, x_meth, x_isII, x_isIC, x_bool1, decide_eq_true_eq, Bool.false_eq_true, if_false, if_true, List.append_nil, List.nil_append, List.cons_append, p60]
    refine ⟨cp60, ?_⟩
    have L0 : 0 < 10 ^ 60 := Nat.pow_pos (by decide)
    refine ite2 (fun hge => ?_) fun hlt => ?_
    · have hge' : 10 ^ 60 ≤ m := by omega
      have em : (m : Int) % ((10 ^ 60 : Nat) : Int) = ((m % 10 ^ 60 : Nat) : Int) := (Int.natCast_emod _ _).symm
      have ed : (m : Int).fdiv ((10 ^ 60 : Nat) : Int) = ((m / 10 ^ 60 : Nat) : Int) := (Int.ofNat_fdiv _ _).symm
      rw [em, ed]
      have rlt : m % 10 ^ 60 < 10 ^ 60 := Nat.mod_lt _ L0
      have rb : Bd 900 ((m % 10 ^ 60 : Nat) : Int) := by
        unfold Bd
        rw [Int.natAbs_natCast]
        exact Nat.lt_of_lt_of_le rlt (by decide +kernel)
      refine ⟨ty_lst hws, cp60, by omega, log1920 rb, ?_⟩
      rw [x_zfT rfl]
      have l200 : (ys.map V.str).length < sizeLine := by rw [List.length_map]; exact Nat.lt_of_lt_of_le (show ys.length < 1000 by omega) (by decide)
      rw [x_append hws l200]
      have b60 : Bd 200 ((10 ^ 60 : Nat) : Int) := by unfold Bd; rw [Int.natAbs_natCast]; decide +kernel
      refine ⟨cp60, any_div (by omega) (b60.mono (by decide)), m / 10 ^ 60, _, ys ++ [Txt.zfill (Str.ofString (toString ((m % 10 ^ 60 : Nat) : Int))) 60], rfl, fun c o hc => ?_, by rw [upd_same, List.map_append]; rfl, ?_, by rw [List.length_append, List.length_singleton]; omega, fun y hy => ?_, ?_, ?_⟩
      · rw [upd_ne (ne_of_none hc hw)]
        exact s _ _ hc
      · rw [hd, num_split (k := 60) (by decide) hge', List.reverse_append, List.append_assoc]
        simp only [List.reverse_cons, List.reverse_nil, List.nil_append, List.map_append, List.flatten_append, List.map_cons, List.map_nil, List.flatten_cons, List.flatten_nil, List.append_nil]
        rw [tl_zf60]
      · rcases List.mem_append.mp hy with hy | hy
        · exact l60 y hy
        · rw [List.mem_singleton.mp hy, tl_len, tl_zf60, padD_len (by decide) rlt]
      · rw [List.length_append, List.length_singleton, Nat.mul_add, Nat.pow_add, ← Nat.mul_assoc, Nat.mul_one, Nat.mul_right_comm]
        refine Nat.le_trans ?_ hm
        exact Nat.mul_le_mul_right _ (Nat.div_mul_le_self m (10 ^ 60))
      · rcases hor with h | h
        · omega
        · exact .inr (by rw [List.length_append, List.length_singleton]; omega)
    · have hlt' : m < 10 ^ 60 := by omega
      exact ⟨m, _, ys, rfl, s, hws, hd, by omega, l60, hm, .inl hlt'⟩
  · obtain ⟨m, A, ys, rfl, s, hws, hd, ly, l60, hm, hor⟩ := s
    simp only [x_seq, x_if, x_test, x_B, x_op, x_un, x_varS, x_var0, x_c, x_I0, x_I, x_U, x_bl, x_ret, x_next, x_eqS, x_neS, x_m0, x_m1, x_isStr, x_SM, x_addT, x_slS, x_lenS, x_strI, x_mulS, x_startT, x_findT, x_preT, x_lstT, x_ascT, x_digT, x_jn, x_js0, x_js1, x_isS, x_fmt, x_fmtS, x_divW, x_truK, x_truS, x_raiseT, x_asg, x_name, x_set0, x_setS, x_drop, x_cb, x_cons, x_nil, x_int1, x_abs1, x_max2, x_gcd, x_gsub, x_sl, x_part, x_nopart, x_int, x_call, x_lst, x_tup, x_not, x_and, x_or, x_andV, x_orV, x_notV, x_ifE, x_eqI, x_neI, x_eqB, x_neB, x_tbm, x_never, x_make, x_meth, x_isII, x_isIC, x_bool1, decide_eq_true_eq, Bool.false_eq_true, if_false, if_true, List.append_nil, List.nil_append, List.cons_append]
    have m60 : m < 10 ^ 60 := by
      rcases hor with h | h
      · exact h
      · rw [h] at hm
        have e : (200 : Int).toNat = 200 := rfl
        rw [e] at hm
        refine Nat.lt_of_not_le fun z => ?_
        have h1 : 1 ≤ m := Nat.le_trans (Nat.pow_pos (by decide)) z
        have h2 : 10 ^ (60 * 200) ≤ n := Nat.le_trans (by rw [← Nat.one_mul (10 ^ (60 * 200))]; exact Nat.mul_le_mul_right _ h1) hm
        have h3 : 10 ^ 5400 ≤ 10 ^ (60 * 200) := Nat.pow_le_pow_right (by decide) (by decide)
        exact absurd (Nat.lt_of_lt_of_le hn (Nat.le_trans h3 h2)) (Nat.lt_irrefl _)
    have bm : Bd 900 (m : Int) := by
      unfold Bd
      rw [Int.natAbs_natCast]
      exact Nat.lt_of_lt_of_le m60 (by decide +kernel)
    have e200 : (200 : Int).toNat = 200 := rfl
    rw [e200] at ly
    refine ⟨ty_lst hws, log1920 bm, ?_⟩
    rw [x_append hws (by rw [List.length_map]; exact Nat.lt_of_lt_of_le (show ys.length < 1000 by omega) (by decide))]
    have e1 : (upd H' w (.lst (ys.map V.str ++ [V.str (Str.ofString (toString (m : Int)))]))) w = some (.lst ((ys ++ [Str.ofString (toString (m : Int))]).map V.str)) := by rw [upd_same, List.map_append]; rfl
    have s1 : Same H (upd H' w (.lst (ys.map V.str ++ [V.str (Str.ofString (toString (m : Int)))]))) := fun c o hc => by rw [upd_ne (ne_of_none hc hw)]; exact s _ _ hc
    generalize upd H' w (.lst (ys.map V.str ++ [V.str (Str.ofString (toString (m : Int)))])) = H1 at e1 s1 ⊢
    rw [x_revL]
    simp only [x_if, x_test, x_B, x_op, x_un, x_varS, x_var0, x_c, x_I0, x_I, x_U, x_bl, x_ret, x_next, x_eqS, x_neS, x_m0, x_m1, x_isStr, x_SM, x_addT, x_slS, x_lenS, x_strI, x_mulS, x_startT, x_findT, x_preT, x_lstT, x_ascT, x_digT, x_jn, x_js0, x_js1, x_isS, x_fmt, x_fmtS, x_divW, x_truK, x_truS, x_raiseT, x_asg, x_name, x_set0, x_setS, x_drop, x_cb, x_cons, x_nil, x_int1, x_abs1, x_max2, x_gcd, x_gsub, x_sl, x_part, x_nopart, x_int, x_call, x_lst, x_tup, x_not, x_and, x_or, x_andV, x_orV, x_notV, x_ifE, x_eqI, x_neI, x_eqB, x_neB, x_tbm, x_never, x_make, x_meth, x_isII, x_isIC, x_bool1, decide_eq_true_eq, Bool.false_eq_true, if_false, if_true, List.append_nil, List.nil_append, List.cons_append]
    refine ⟨w, _, rfl, SqL.at e1, fun p hp => ?_⟩
    rw [← List.map_reverse]
    have tm : tl (Str.ofString (toString (m : Int))) = numD m := by rw [tl_int, intD_nat]
    have lm : (Str.ofString (toString (m : Int))).length ≤ 60 := by rw [tl_len, tm]; exact num_len (by decide) m60
    have l0 : ("" : Str).length = 0 := by decide +kernel
    have := sum_len (B := 60) (ys := (ys ++ [Str.ofString (toString (m : Int))]).reverse) fun y hy => by
      rcases List.mem_append.mp (List.mem_reverse.mp hy) with hy | hy
      · rw [l60 y hy]
        exact Nat.le_refl _
      · rw [List.mem_singleton.mp hy]
        exact lm
    rw [List.length_reverse, List.length_append, List.length_singleton] at this
    refine ⟨_, p, _, rfl, rfl, .inl (SqL.at upd_same), by rw [l0, Nat.mul_zero]; omega, k _ _ ?_ (Same.new' s1 hp)⟩
    rw [empty_lit, tl_join0, hd, List.reverse_append]
    simp only [List.reverse_cons, List.reverse_nil, List.nil_append, List.map_append, List.flatten_append, List.map_cons, List.map_nil, List.flatten_cons, List.flatten_nil, List.append_nil]
    rw [tm]
theorem pure_lwritten (vs : List V) (H : Hp) (Q : VK) (E : XK) (h : spLWritten vs H Q E) : t_lwritten P0 K mg C Z D BN PC VA BP f_place E { nx := fun _ H' => Q .non H', rt := Q } (start ["pair", "text"] vs) H := by
  obtain ⟨o, t, b, rfl, ho, hb, ht, hb', k⟩ := h
  show t_lwritten P0 K mg C Z D BN PC VA BP f_place E _ [some (.ref o), none] H
  have big : ∀ n : Nat, n ≤ 100000 → n ≤ sizeLine := fun n hn => Nat.le_trans hn (by decide)
  have ln : ∀ n : Nat, n < 10 ^ 5400 → (numD n).length ≤ 5400 := fun n hn => num_len (by decide) hn
  have la := ln _ ht
  have lb := ln _ hb'
  have l1 : ("-" : Str).length = 1 := by decide +kernel
  have l2 : ("/" : Str).length = 1 := by decide +kernel
  have ea : (if t < 0 then -t else t) = ((t.natAbs : Nat) : Int) := by split <;> omega
  have eb : b = ((b.natAbs : Nat) : Int) := by omega
  unfold t_lwritten
  simp only [x_seq, x_if, x_test, x_B, x_op, x_un, x_varS, x_var0, x_c, x_I0, x_I, x_U, x_bl, x_ret, x_next, x_eqS, x_neS, x_m0, x_m1, x_isStr, x_SM, x_addT, x_slS, x_lenS, x_strI, x_mulS, x_startT, x_findT, x_preT, x_lstT, x_ascT, x_digT, x_jn, x_js0, x_js1, x_isS, x_fmt, x_fmtS, x_divW, x_truK, x_truS, x_raiseT, x_asg, x_name, x_set0, x_setS, x_drop, x_cb, x_cons, x_nil, x_int1, x_abs1, x_max2, x_gcd, x_gsub, x_sl, x_part, x_nopart, x_int, x_call, x_lst, x_tup, x_not, x_and, x_or, x_andV, x_orV, x_notV, x_ifE, x_eqI, x_neI, x_eqB, x_neB, x_tbm, x_never, x_make, x_meth, x_isII, x_isIC, x_bool1, decide_eq_true_eq, Bool.false_eq_true, if_false, if_true, List.append_nil, List.nil_append, List.cons_append, x_ixT ho at0, abs_if, ea]
  refine ⟨_, rfl, ht, fun y H1 hy s1 => ?_⟩
  have ho1 : TupAt H1 o t b := s1 _ _ ho
  have ly : y.length ≤ 5400 := by rw [tl_len, hy]; exact la
  simp only [x_if, x_test, x_B, x_op, x_un, x_varS, x_var0, x_c, x_I0, x_I, x_U, x_bl, x_ret, x_next, x_eqS, x_neS, x_m0, x_m1, x_isStr, x_SM, x_addT, x_slS, x_lenS, x_strI, x_mulS, x_startT, x_findT, x_preT, x_lstT, x_ascT, x_digT, x_jn, x_js0, x_js1, x_isS, x_fmt, x_fmtS, x_divW, x_truK, x_truS, x_raiseT, x_asg, x_name, x_set0, x_setS, x_drop, x_cb, x_cons, x_nil, x_int1, x_abs1, x_max2, x_gcd, x_gsub, x_sl, x_part, x_nopart, x_int, x_call, x_lst, x_tup, x_not, x_and, x_or, x_andV, x_orV, x_notV, x_ifE, x_eqI, x_neI, x_eqB, x_neB, x_tbm, x_never, x_make, x_meth, x_isII, x_isIC, x_bool1, decide_eq_true_eq, Bool.false_eq_true, if_false, if_true, List.append_nil, List.nil_append, List.cons_append, x_ixT ho1 at0, x_ixT ho1 at1]
  have fin : ∀ z : Str, tl z = intD t → z.length ≤ 5401 → if b = 1 then Q (.str z) H1 else z.length + ("/" : Str).length ≤ sizeLine ∧ spLText [.int b] H1 (fun y_1 H2 => rAddT (.str (z ++ "/")) y_1 H2 Q) E0 := by
    intro z hz lz
    split
    · rename_i h1
      exact k z H1 (by rw [hz, h1, written_1]) s1
    · rename_i h1
      refine ⟨big _ (by omega), b.natAbs, by rw [← eb], hb', fun u H2 hu s2 => ?_⟩
      have lu : u.length ≤ 5400 := by rw [tl_len, hu]; exact lb
      dsimp only
      rw [x_addT]
      refine ⟨big _ (by rw [add_len]; omega), k _ H2 ?_ (s1.trans s2)⟩
      rw [TL.tl_append, TL.tl_append, tl_slash, hz, hu, written_n h1, List.append_assoc]
      rfl
  refine ite2 (fun hn => ?_) fun hn => ?_
  · refine ⟨big _ (by omega), fin _ ?_ (by rw [add_len]; omega)⟩
    rw [TL.tl_append, tl_dash, hy]
    unfold intD
    rw [if_pos hn]
  · refine fin y ?_ (by omega)
    rw [hy]
    unfold intD
    rw [if_neg hn, List.nil_append]
end
end SpX

set_option Elab.async false
set_option linter.all false
set_option maxRecDepth 100000
set_option maxHeartbeats 2000000
set_option exponentiation.threshold 20000
/-! k65: the law's letters, powers. -/
namespace SpX
open PySem PySem.Spec NumText L2 StX RZ
open TL (tl)
def spLLetters : Sp := fun vs H Q _ => ∃ (e : Addr) (es : List Int), vs = [.ref e] ∧ ExpAt H e es ∧ Exps es ∧ ∀ (y : Str) (H' : Hp), tl y = letD es → Same H H' → Q (.str y) H'
def spLPower (C : Addr) : Sp := fun vs H Q _ => ∃ (r : Addr) (t b n : Int), vs = [.ref r, .int n] ∧ RatAt C H r t b ∧ Num6 t b ∧ 0 ≤ n ∧ n ≤ 90 ∧ ∀ (r' : Addr) (H' : Hp), RatAt C H' r' (t ^ n.toNat) (b ^ n.toNat) → Same H H' → Q (.ref r') H'
def t_lletters (P : Program) (K : PySem.W.Frag) (mg : Str → Option Value) (C Z D BN PC VA BP f_place : Addr) (E : XK) : TS :=
    (tSeq (tAsg (tLst tNil) (gName 1))
    (tSeq (tFor (iRng1 (tCons (tCB rLenA (tCons (tVar 0) tNil)) tNil)) (gName 2) ((tSeq (tIfS (tTest (tOp rEq (tOp rIx1 (tVar 0) (tVar 2)) (tC (.int 1)))) (tDrop (tBM K "list" rAppend (tVar 1) (tCons (tOp rIxS (tC (.str "xyz")) (tVar 2)) tNil))) tNext)
    (tIfS (tTest (tOp (rI0 fun i j => .bl (decide (j < i))) (tOp rIx1 (tVar 0) (tVar 2)) (tC (.int 1)))) (tDrop (tBM K "list" rAppend (tVar 1) (tCons (tOp rAddT (tOp rAddT (tOp rIxS (tC (.str "xyz")) (tVar 2)) (tC (.str "^"))) (tCB rStrI (tCons (tOp rIx1 (tVar 0) (tVar 2)) tNil))) tNil))) tNext))))
    (tRet (tM1 (rJoinT K) (tC (.str " ")) (tVar 1)))))
def t_lpower (P : Program) (K : PySem.W.Frag) (mg : Str → Option Value) (C Z D BN PC VA BP f_place : Addr) (E : XK) : TS :=
    (tSeq (tAsg (tMake C (spInit C Z) [.int 1] E0 (tCons (tC (.int 1)) tNil)) (gName 2))
    (tSeq (tAsg (tVar 0) (gName 3))
    (tSeq (tAsg (tVar 1) (gName 4))
    (tSeq (tFor (iRng1 (tCons (tC (.int 7)) tNil)) (gName 5) ((tSeq (tIfS (tTest (tOp rEq (tOp (rI (fun _ j => 0 < j) fun i j => .int (i % j)) (tCB rInt1 (tCons (tVar 4) tNil)) (tC (.int 2))) (tC (.int 1)))) (tAsg (tOp (rOwn2 C (spMulW C) E0) (tVar 2) (tVar 3)) (gName 2)) tNext)
    (tSeq (tAsg (tOp (rI CDivF fun i j => .int (i.fdiv j)) (tVar 4) (tC (.int 2))) (gName 4))
    (tIfS (tTest (tOp (rI0 fun i j => .bl (decide (j < i))) (tVar 4) (tC (.int 0)))) (tAsg (tOp (rOwn2 C (spMulW C) E0) (tVar 3) (tVar 3)) (gName 3)) tNext)))))
    (tRet (tVar 2))))))
section
variable {P0 : Program} {K : PySem.W.Frag} {mg : Str → Option Value} {C Z D BN PC VA BP f_place : Addr}
theorem tl_xyz : tl "xyz" = [120, 121, 122] := by decide +kernel
theorem at_xyz {k : Nat} (h : k < 3) : atI (tl "xyz") (k : Int) = some (120 + k) := by
  rw [tl_xyz]
  match k, h with
  | 0, _ => rfl
  | 1, _ => rfl
  | 2, _ => rfl
theorem pure_lletters (vs : List V) (H : Hp) (Q : VK) (E : XK) (h : spLLetters vs H Q E) : t_lletters P0 K mg C Z D BN PC VA BP f_place E { nx := fun _ H' => Q .non H', rt := Q } (start ["exponents", "words", "k"] vs) H := by
  obtain ⟨e, es, rfl, he, x, k⟩ := h
  show t_lletters P0 K mg C Z D BN PC VA BP f_place E _ [some (.ref e), none, none] H
  unfold t_lletters
  rw [x_seq]
  simp only [x_if, x_test, x_B, x_op, x_un, x_varS, x_var0, x_c, x_I0, x_I, x_U, x_bl, x_ret, x_next, x_eqS, x_neS, x_m0, x_m1, x_isStr, x_SM, x_addT, x_slS, x_lenS, x_strI, x_mulS, x_startT, x_findT, x_preT, x_lstT, x_ascT, x_digT, x_jn, x_js0, x_js1, x_isS, x_fmt, x_fmtS, x_divW, x_truK, x_truS, x_raiseT, x_asg, x_name, x_set0, x_setS, x_drop, x_cb, x_cons, x_nil, x_int1, x_abs1, x_max2, x_gcd, x_gsub, x_sl, x_part, x_nopart, x_int, x_call, x_lst, x_tup, x_not, x_and, x_or, x_andV, x_orV, x_notV, x_ifE, x_eqI, x_neI, x_eqB, x_neB, x_tbm, x_never, x_make, x_meth, x_isII, x_isIC, x_bool1, decide_eq_true_eq, Bool.false_eq_true, if_false, if_true, List.append_nil, List.nil_append, List.cons_append]
  refine ⟨by decide, fun w hw => ?_⟩
  rw [x_seq]
  have e0 : (upd H w (.lst [])) w = some (.lst []) := upd_same
  have s0 : Same H (upd H w (.lst [])) := Same.new hw
  generalize upd H w (.lst []) = H0 at e0 s0 ⊢
  have he0 : ExpAt H0 e es := s0 _ _ he
  have x3 := x.three
  refine for_rngV (j := (es.length : Int)) (fun Q => by simp only [x_seq, x_if, x_test, x_B, x_op, x_un, x_varS, x_var0, x_c, x_I0, x_I, x_U, x_bl, x_ret, x_next, x_eqS, x_neS, x_m0, x_m1, x_isStr, x_SM, x_addT, x_slS, x_lenS, x_strI, x_mulS, x_startT, x_findT, x_preT, x_lstT, x_ascT, x_digT, x_jn, x_js0, x_js1, x_isS, x_fmt, x_fmtS, x_divW, x_truK, x_truS, x_raiseT, x_asg, x_name, x_set0, x_setS, x_drop, x_cb, x_cons, x_nil, x_int1, x_abs1, x_max2, x_gcd, x_gsub, x_sl, x_part, x_nopart, x_int, x_call, x_lst, x_tup, x_not, x_and, x_or, x_andV, x_orV, x_notV, x_ifE, x_eqI, x_neI, x_eqB, x_neB, x_tbm, x_never, x_make, x_meth, x_isII, x_isIC, x_bool1, decide_eq_true_eq, Bool.false_eq_true, if_false, if_true, List.append_nil, List.nil_append, List.cons_append, x_lenT he0, List.length_map]) (by omega) (fun i σ H' => ∃ A, σ = [some (.ref e), some (.ref w), A] ∧ ∃ ws : List Str, H' w = some (.lst (ws.map V.str)) ∧ ws.map tl = preD es i ∧ Same H H' ∧ (∀ y ∈ ws, y.length ≤ 100) ∧ ws.length ≤ i) ⟨none, rfl, [], e0, rfl, s0, by simp, Nat.le_refl _⟩ ?_ ?_
  · rintro i σ H' hi ⟨A, rfl, ws, hws, ht, s, hl, hn⟩
    obtain ⟨ex, hex⟩ : ∃ ex, es[i]? = some ex := ⟨_, List.getElem?_eq_getElem (by omega)⟩
    have le := exps_le x hex
    have ed : es.getD i 0 = ex := by rw [List.getD_eq_getElem?_getD, hex]; rfl
    have he' : ExpAt H' e es := s _ _ he
    have ai : atI (es.map V.int) (i : Int) = some (.int ex) := atI_nat (by rw [List.getElem?_map, hex]; rfl)
    have wl : (ws.map V.str).length < sizeLine := by
      rw [List.length_map]
      exact Nat.lt_of_lt_of_le (show ws.length < 100 by omega) (by decide)
    have big : ∀ n : Nat, n ≤ 100000 → n ≤ sizeLine := fun n hn => Nat.le_trans hn (by decide)
    have put : ∀ (y : Str), [tl y] = wd i ex → y.length ≤ 100 → ∃ A, [some (V.ref e), some (.ref w), some (.int (i : Int))] = [some (.ref e), some (.ref w), A] ∧ ∃ ws2 : List Str, (upd H' w (.lst (ws.map V.str ++ [.str y]))) w = some (.lst (ws2.map V.str)) ∧ ws2.map tl = preD es (i + 1) ∧ Same H (upd H' w (.lst (ws.map V.str ++ [.str y]))) ∧ (∀ y ∈ ws2, y.length ≤ 100) ∧ ws2.length ≤ i + 1 := by
      intro y hy ly
      refine ⟨_, rfl, ws ++ [y], by rw [upd_same, List.map_append]; rfl, by rw [List.map_append, ht, preD_succ, ed, ← hy]; rfl, fun c o hc => ?_, fun u hu => ?_, by rw [List.length_append]; exact Nat.succ_le_succ hn⟩
      · rw [upd_ne (ne_of_none hc hw)]
        exact s _ _ hc
      · rcases List.mem_append.mp hu with hu | hu
        · exact hl u hu
        · rw [List.mem_singleton.mp hu]
          exact ly
    simp only [x_seq, x_if, x_test, x_B, x_op, x_un, x_varS, x_var0, x_c, x_I0, x_I, x_U, x_bl, x_ret, x_next, x_eqS, x_neS, x_m0, x_m1, x_isStr, x_SM, x_addT, x_slS, x_lenS, x_strI, x_mulS, x_startT, x_findT, x_preT, x_lstT, x_ascT, x_digT, x_jn, x_js0, x_js1, x_isS, x_fmt, x_fmtS, x_divW, x_truK, x_truS, x_raiseT, x_asg, x_name, x_set0, x_setS, x_drop, x_cb, x_cons, x_nil, x_int1, x_abs1, x_max2, x_gcd, x_gsub, x_sl, x_part, x_nopart, x_int, x_call, x_lst, x_tup, x_not, x_and, x_or, x_andV, x_orV, x_notV, x_ifE, x_eqI, x_neI, x_eqB, x_neB, x_tbm, x_never, x_make, x_meth, x_isII, x_isIC, x_bool1, decide_eq_true_eq, Bool.false_eq_true, if_false, if_true, List.append_nil, List.nil_append, List.cons_append, x_ixT he' ai, x_ixS (show ("xyz" : Str).length ≤ sizeLine from by decide +kernel) (at_xyz (show i < 3 by omega))]
    have tc : tl (⟨#[120 + i]⟩ : Str) = [120 + i] := rfl
    have lc : (⟨#[120 + i]⟩ : Str).length = 1 := rfl
    have l1 : ("^" : Str).length = 1 := by decide +kernel
    have t1 : tl "^" = [94] := by decide +kernel
    have be : Bd 900 ex := .lit _ le.1 (by omega) (by decide)
    refine ite2 (fun h1 => ?_) fun h1 => ?_
    · refine ⟨ty_lst hws, ?_⟩
      rw [x_append hws wl]
      have he2 : ExpAt (upd H' w (.lst (ws.map V.str ++ [.str ⟨#[120 + i]⟩]))) e es := by
        show _ = some (HO.tup _)
        rw [upd_ne (ne_of_none he hw)]
        exact he'
      simp only [x_ixT he2 ai, x_if, x_test, x_B, x_op, x_un, x_varS, x_var0, x_c, x_I0, x_I, x_U, x_bl, x_ret, x_next, x_eqS, x_neS, x_m0, x_m1, x_isStr, x_SM, x_addT, x_slS, x_lenS, x_strI, x_mulS, x_startT, x_findT, x_preT, x_lstT, x_ascT, x_digT, x_jn, x_js0, x_js1, x_isS, x_fmt, x_fmtS, x_divW, x_truK, x_truS, x_raiseT, x_asg, x_name, x_set0, x_setS, x_drop, x_cb, x_cons, x_nil, x_int1, x_abs1, x_max2, x_gcd, x_gsub, x_sl, x_part, x_nopart, x_int, x_call, x_lst, x_tup, x_not, x_and, x_or, x_andV, x_orV, x_notV, x_ifE, x_eqI, x_neI, x_eqB, x_neB, x_tbm, x_never, x_make, x_meth, x_isII, x_isIC, x_bool1, decide_eq_true_eq, Bool.false_eq_true, if_false, if_true, List.append_nil, List.nil_append, List.cons_append]
      rw [if_neg (by omega)]
      exact put _ (by rw [tc]; unfold wd; rw [if_pos h1]) (by rw [lc]; decide)
    · refine ite2 (fun h2 => ?_) fun h2 => ?_
      · have ll : (Str.ofString (toString ex)).length ≤ 2 := by rw [tl_len, tl_int, int_pos (by omega)]; exact num_len (k := 2) (by decide) (by omega)
        refine ⟨ty_lst hws, big _ (by rw [lc, l1]; decide), log1920 be, big _ (by rw [add_len, lc, l1]; omega), ?_⟩
        rw [x_append hws wl]
        refine put _ ?_ (by rw [add_len, add_len, lc, l1]; omega)
        rw [TL.tl_append, TL.tl_append, tc, t1, tl_int, int_pos (by omega), List.append_assoc]
        unfold wd
        rw [if_neg h1, if_pos h2]
      · refine ⟨_, rfl, ws, hws, ?_, s, hl, by omega⟩
        rw [ht, preD_succ, ed]
        unfold wd
        rw [if_neg h1, if_neg h2, List.append_nil]
  · rintro σ H' ⟨A, rfl, ws, hws, ht, s, hl, hn⟩
    simp only [x_seq, x_if, x_test, x_B, x_op, x_un, x_varS, x_var0, x_c, x_I0, x_I, x_U, x_bl, x_ret, x_next, x_eqS, x_neS, x_m0, x_m1, x_isStr, x_SM, x_addT, x_slS, x_lenS, x_strI, x_mulS, x_startT, x_findT, x_preT, x_lstT, x_ascT, x_digT, x_jn, x_js0, x_js1, x_isS, x_fmt, x_fmtS, x_divW, x_truK, x_truS, x_raiseT, x_asg, x_name, x_set0, x_setS, x_drop, x_cb, x_cons, x_nil, x_int1, x_abs1, x_max2, x_gcd, x_gsub, x_sl, x_part, x_nopart, x_int, x_call, x_lst, x_tup, x_not, x_and, x_or, x_andV, x_orV, x_notV, x_ifE, x_eqI, x_neI, x_eqB, x_neB, x_tbm, x_never, x_make, x_meth, x_isII, x_isIC, x_bool1, decide_eq_true_eq, Bool.false_eq_true, if_false, if_true, List.append_nil, List.nil_append, List.cons_append]
    have tj : tl (Txt.join " " ws) = letD es := by
      rw [TL.join_eq, TL.tl_join, ht]
      rfl
    have ls : (" " : Str).length = 1 := by decide +kernel
    have e1 : ((es.length : Nat) : Int).toNat = es.length := rfl
    rw [e1] at hn
    refine ⟨_, w, ws, rfl, rfl, .inl (SqL.at hws), ?_, k _ H' tj s⟩
    have := sum_len hl
    rw [ls]
    omega
theorem low_pow {t b : Int} (h : Low t b) (i : Nat) : Low (t ^ i) (b ^ i) := by
  refine ⟨Int.pow_pos h.pos, ?_⟩
  rw [Int.natAbs_pow, Int.natAbs_pow]
  exact Nat.Coprime.pow i i h.cop
/-- the state of the powers' loop -/
def PowI (C r : Addr) (n t b : Int) (H : Hp) (i : Nat) (σ : L2.St) (H' : Hp) : Prop := ∃ (f s : Addr) (l : Nat) (A : Option V) (e g : Nat), σ = [some (.ref r), some (.int n), some (.ref f), some (.ref s), some (.int (l : Int)), A] ∧ Same H H' ∧ RatAt C H' f (t ^ e) (b ^ e) ∧ e + l * 2 ^ i = n.toNat ∧ RatAt C H' s (t ^ g) (b ^ g) ∧ (0 < l → g = 2 ^ i) ∧ g ≤ 90
theorem pure_lpower (vs : List V) (H : Hp) (Q : VK) (E : XK) (h : spLPower C vs H Q E) : t_lpower P0 K mg C Z D BN PC VA BP f_place E { nx := fun _ H' => Q .non H', rt := Q } (start ["number", "count", "found", "square", "left", "k"] vs) H := by
  obtain ⟨r, t, b, n, rfl, hr, hn, n0, n90, k⟩ := h
  show t_lpower P0 K mg C Z D BN PC VA BP f_place E _ [some (.ref r), some (.int n), none, none, none, none] H
  unfold t_lpower
  rw [x_seq]
  simp only [x_if, x_test, x_B, x_op, x_un, x_varS, x_var0, x_c, x_I0, x_I, x_U, x_bl, x_ret, x_next, x_eqS, x_neS, x_m0, x_m1, x_isStr, x_SM, x_addT, x_slS, x_lenS, x_strI, x_mulS, x_startT, x_findT, x_preT, x_lstT, x_ascT, x_digT, x_jn, x_js0, x_js1, x_isS, x_fmt, x_fmtS, x_divW, x_truK, x_truS, x_raiseT, x_asg, x_name, x_set0, x_setS, x_drop, x_cb, x_cons, x_nil, x_int1, x_abs1, x_max2, x_gcd, x_gsub, x_sl, x_part, x_nopart, x_int, x_call, x_lst, x_tup, x_not, x_and, x_or, x_andV, x_orV, x_notV, x_ifE, x_eqI, x_neI, x_eqB, x_neB, x_tbm, x_never, x_make, x_meth, x_isII, x_isIC, x_bool1, decide_eq_true_eq, Bool.false_eq_true, if_false, if_true, List.append_nil, List.nil_append, List.cons_append]
  refine fun f d n1 n2 n3 => make_at (x := 1) (y := 1) (.lit _ (by decide) (by decide) (by decide)) (.lit _ (by decide) (by decide) (by decide)) (by decide) n1 n2 n3 fun H1 u c hf hno s1 => ?_
  obtain ⟨rfl, rfl⟩ := hno.low.same (Low.int (i := 1)) hno.eq
  simp only [x_seq, x_if, x_test, x_B, x_op, x_un, x_varS, x_var0, x_c, x_I0, x_I, x_U, x_bl, x_ret, x_next, x_eqS, x_neS, x_m0, x_m1, x_isStr, x_SM, x_addT, x_slS, x_lenS, x_strI, x_mulS, x_startT, x_findT, x_preT, x_lstT, x_ascT, x_digT, x_jn, x_js0, x_js1, x_isS, x_fmt, x_fmtS, x_divW, x_truK, x_truS, x_raiseT, x_asg, x_name, x_set0, x_setS, x_drop, x_cb, x_cons, x_nil, x_int1, x_abs1, x_max2, x_gcd, x_gsub, x_sl, x_part, x_nopart, x_int, x_call, x_lst, x_tup, x_not, x_and, x_or, x_andV, x_orV, x_notV, x_ifE, x_eqI, x_neI, x_eqB, x_neB, x_tbm, x_never, x_make, x_meth, x_isII, x_isIC, x_bool1, decide_eq_true_eq, Bool.false_eq_true, if_false, if_true, List.append_nil, List.nil_append, List.cons_append]
  have lo := hn.low
  have bt : ∀ i, Bd (200 * i + 1) (t ^ i) := pow60 hn.t60
  have bb : ∀ i, Bd (200 * i + 1) (b ^ i) := pow60 hn.b60
  have mulp : ∀ (H' : Hp) (p q : Addr) (i j : Nat) (Q : VK), RatAt C H' p (t ^ i) (b ^ i) → RatAt C H' q (t ^ j) (b ^ j) → i + j ≤ 180 → (∀ (m : Addr) (H2 : Hp), RatAt C H2 m (t ^ (i + j)) (b ^ (i + j)) → Same H' H2 → Q (.ref m) H2) → spMulW C [.ref p, .ref q] H' Q E0 := by
    intro H' p q i j Q hp hq hij kk
    have e1 := lo.nz
    have lij := low_pow lo (i + j)
    refine ⟨p, .ref q, _, _, _, _, rfl, hp, .rat hq, low_pow lo i, low_pow lo j, (bt i).mono (by omega), (bb i).mono (by omega), (bt j).mono (by omega), (bb j).mono (by omega), ?_, fun m H2 u c hm hN s => ?_⟩
    · rw [← Int.pow_add, ← Int.pow_add, lij.cop]
      exact Nat.one_lt_two_pow (by decide)
    · rw [← Int.pow_add, ← Int.pow_add] at hN
      obtain ⟨rfl, rfl⟩ := hN.low.same lij hN.eq
      exact kk m H2 hm s
  refine for_rngC (by decide) (PowI C r n t b H) ⟨f, r, n.toNat, none, 0, 1, by
      have : ((n.toNat : Nat) : Int) = n := by omega
      rw [this], s1, by simpa using hf, by simp, by rw [Int.pow_one, Int.pow_one]; exact hr.same s1, fun _ => rfl, by decide⟩ (fun i σ H' hi s => ?_) fun σ H' s => ?_
  · obtain ⟨f, q, l, A, e, g, rfl, s, hf, hsum, hq, hg, g90⟩ := s
    obtain ⟨df, hf'⟩ := id hf
    obtain ⟨dq, hq'⟩ := id hq
    have em : (l : Int) % 2 = ((l % 2 : Nat) : Int) := (Int.natCast_emod _ _).symm
    have ed : (l : Int).fdiv 2 = ((l / 2 : Nat) : Int) := (Int.ofNat_fdiv _ _).symm
    simp only [x_seq, x_if, x_test, x_B, x_op, x_un, x_varS, x_var0, x_c, x_I0, x_I, x_U, x_bl, x_ret, x_next, x_eqS, x_neS, x_m0, x_m1, x_isStr, x_SM, x_addT, x_slS, x_lenS, x_strI, x_mulS, x_startT, x_findT, x_preT, x_lstT, x_ascT, x_digT, x_jn, x_js0, x_js1, x_isS, x_fmt, x_fmtS, x_divW, x_truK, x_truS, x_raiseT, x_asg, x_name, x_set0, x_setS, x_drop, x_cb, x_cons, x_nil, x_int1, x_abs1, x_max2, x_gcd, x_gsub, x_sl, x_part, x_nopart, x_int, x_call, x_lst, x_tup, x_not, x_and, x_or, x_andV, x_orV, x_notV, x_ifE, x_eqI, x_neI, x_eqB, x_neB, x_tbm, x_never, x_make, x_meth, x_isII, x_isIC, x_bool1, decide_eq_true_eq, Bool.false_eq_true, if_false, if_true, List.append_nil, List.nil_append, List.cons_append, x_own2 hf' hq', em, ed]
    have dm := Nat.div_add_mod l 2
    have p2 : 2 ^ (i + 1) = 2 * 2 ^ i := by rw [Nat.pow_succ, Nat.mul_comm]
    have second : ∀ (f2 : Addr) (H1 : Hp) (e2 : Nat), Same H H1 → RatAt C H1 f2 (t ^ e2) (b ^ e2) → RatAt C H1 q (t ^ g) (b ^ g) → e2 + l / 2 * 2 ^ (i + 1) = n.toNat →
        CDivF (l : Int) 2 ∧ if (0 : Int) < ((l / 2 : Nat) : Int) then rOwn2 C (spMulW C) E0 (.ref q) (.ref q) H1 (fun x H2 => PowI C r n t b H (i + 1) [some (.ref r), some (.int n), some (.ref f2), some x, some (.int ((l / 2 : Nat) : Int)), some (.int (i : Int))] H2)
          else PowI C r n t b H (i + 1) [some (.ref r), some (.int n), some (.ref f2), some (.ref q), some (.int ((l / 2 : Nat) : Int)), some (.int (i : Int))] H1 := by
      intro f2 H1 e2 sH h2 hq1 hs2
      refine ⟨small_div (by decide), ite2 (fun hl => ?_) fun hl => ?_⟩
      · have l0 : 0 < l := by omega
        have gg := hg l0
        obtain ⟨dq1, hq1'⟩ := id hq1
        rw [x_own2 hq1' hq1']
        have m1 : 1 * 2 ^ (i + 1) ≤ l / 2 * 2 ^ (i + 1) := Nat.mul_le_mul_right _ (by omega)
        refine mulp H1 q q g g _ hq1 hq1 (by omega) fun m H2 hm s2 => ?_
        refine ⟨f2, m, l / 2, _, e2, g + g, rfl, sH.trans s2, h2.same s2, hs2, hm, fun _ => by omega, by omega⟩
      · exact ⟨f2, q, l / 2, _, e2, g, rfl, sH, h2, hs2, hq1, fun z => by omega, g90⟩
    refine ⟨by decide, ite2 (fun h1 => ?_) fun h1 => ?_⟩
    · have l1 : l % 2 = 1 := by omega
      have gg := hg (by omega)
      have : l * 2 ^ i = (l / 2) * 2 ^ (i + 1) + 2 ^ i := by
        have : l = 2 * (l / 2) + 1 := by omega
        rw [p2]
        generalize l / 2 = y at *
        subst this
        rw [Nat.add_mul, Nat.one_mul, Nat.mul_comm 2 y, Nat.mul_assoc]
      refine mulp H' f q e g _ hf hq (by omega) fun m H1 hm s1 => ?_
      exact second m H1 (e + g) (s.trans s1) hm (hq.same s1) (by omega)
    · have l1 : l % 2 = 0 := by omega
      have : l * 2 ^ i = (l / 2) * 2 ^ (i + 1) := by
        have : l = 2 * (l / 2) := by omega
        rw [p2]
        generalize l / 2 = y at *
        subst this
        rw [Nat.mul_comm 2 y, Nat.mul_assoc]
      exact second f H' e s hf hq (by omega)
  · obtain ⟨f, q, l, A, e, g, rfl, s, hf, hsum, hq, hg, g90⟩ := s
    simp only [x_seq, x_if, x_test, x_B, x_op, x_un, x_varS, x_var0, x_c, x_I0, x_I, x_U, x_bl, x_ret, x_next, x_eqS, x_neS, x_m0, x_m1, x_isStr, x_SM, x_addT, x_slS, x_lenS, x_strI, x_mulS, x_startT, x_findT, x_preT, x_lstT, x_ascT, x_digT, x_jn, x_js0, x_js1, x_isS, x_fmt, x_fmtS, x_divW, x_truK, x_truS, x_raiseT, x_asg, x_name, x_set0, x_setS, x_drop, x_cb, x_cons, x_nil, x_int1, x_abs1, x_max2, x_gcd, x_gsub, x_sl, x_part, x_nopart, x_int, x_call, x_lst, x_tup, x_not, x_and, x_or, x_andV, x_orV, x_notV, x_ifE, x_eqI, x_neI, x_eqB, x_neB, x_tbm, x_never, x_make, x_meth, x_isII, x_isIC, x_bool1, decide_eq_true_eq, Bool.false_eq_true, if_false, if_true, List.append_nil, List.nil_append, List.cons_append]
    have l0 : l = 0 := by
      have : (7 : Int).toNat = 7 := rfl
      rw [this] at hsum
      omega
    subst l0
    rw [Nat.zero_mul, Nat.add_zero] at hsum
    subst hsum
    exact k f H' hf s
end
end SpX

set_option Elab.async false
set_option linter.all false
set_option maxRecDepth 100000
set_option maxHeartbeats 2000000
set_option exponentiation.threshold 20000
/-! k65: the word of a variable is read. -/
namespace SpX
open PySem PySem.Spec NumText L2 StX RZ
open TL (tl)
def nameK (k : Nat) : Str := names3.getD k ""
/-- the word of the k-th variable with the exponent e -/
def wordS (k : Nat) (e : Int) : Str := if e = 1 then nameK k else nameK k ++ "^" ++ Str.ofString (toString e)
def spRPower : Sp := fun vs H Q _ => ∃ (k : Nat) (e n : Int), vs = [.str (wordS k e), .int n] ∧ (k : Int) < n ∧ n ≤ 3 ∧ 1 ≤ e ∧ e ≤ 16 ∧ ∀ (o : Addr) (H' : Hp), TupAt H' o k e → Same H H' → Q (.ref o) H'
def t_rpower_1 (P : Program) (K : PySem.W.Frag) (mg : Str → Option Value) (C Z D BN PC VA BP f_place : Addr) (E : XK) : TS :=
    (tSeq (tIfS (tTest (tOp (rNotInT K) (tVar 2) (tSl (L2.rSlA K) (tC (.ref VA)) tNoPart (tPart (tVar 1))))) tNever tNext)
    (tSeq (tIfS (tNot (tTruK K (tVar 3))) (tRet (tTup (tCons (tBM K "tuple" (rTupIx K) (tC (.ref VA)) (tCons (tVar 2) tNil)) (tCons (tC (.int 1)) tNil)))) tNext)
    (tSeq (tIfS (tOr (tTest (tOp (rI0 fun i j => .bl (decide (j < i))) (tCB rLenT (tCons (tVar 4) tNil)) (tC (.int 2)))) (tOr (tNot (tB (tM0 rAscT (tVar 4)))) (tNot (tB (tM0 rDigT (tVar 4)))))) tNever tNext)
    (tRet (tTup (tCons (tBM K "tuple" (rTupIx K) (tC (.ref VA)) (tCons (tVar 2) tNil)) (tCons (tCB rIntT (tCons (tVar 4) tNil)) tNil)))))))
def t_rpower (P : Program) (K : PySem.W.Frag) (mg : Str → Option Value) (C Z D BN PC VA BP f_place : Addr) (E : XK) : TS :=
    (tSeq (tAsg (tM1 rParT (tVar 0) (tC (.str "^"))) (gTup K 3 (gCons (gName 2) (gCons (gName 3) (gCons (gName 4) gNil)))))
    (tSeq (tIfS (tTest (tOp (rNotInT K) (tVar 2) (tSl (L2.rSlA K) (tC (.ref VA)) tNoPart (tPart (tVar 1))))) tNever tNext)
    (tSeq (tIfS (tNot (tTruK K (tVar 3))) (tRet (tTup (tCons (tBM K "tuple" (rTupIx K) (tC (.ref VA)) (tCons (tVar 2) tNil)) (tCons (tC (.int 1)) tNil)))) tNext)
    (tSeq (tIfS (tOr (tTest (tOp (rI0 fun i j => .bl (decide (j < i))) (tCB rLenT (tCons (tVar 4) tNil)) (tC (.int 2)))) (tOr (tNot (tB (tM0 rAscT (tVar 4)))) (tNot (tB (tM0 rDigT (tVar 4)))))) tNever tNext)
    (tRet (tTup (tCons (tBM K "tuple" (rTupIx K) (tC (.ref VA)) (tCons (tVar 2) tNil)) (tCons (tCB rIntT (tCons (tVar 4) tNil)) tNil))))))))
section
variable {P0 : Program} {K : PySem.W.Frag} {mg : Str → Option Value} {C Z D BN PC VA BP f_place : Addr}
theorem tl_nameK {k : Nat} (h : k < 3) : tl (nameK k) = [120 + k] := by
  match k, h with
  | 0, _ => decide +kernel
  | 1, _ => decide +kernel
  | 2, _ => decide +kernel
theorem sl_names (TV : ∀ H : Hp, SqT K H VA (names3.map V.str)) {n : Nat} {H : Hp} {Q : VK} (n1 : 1 ≤ n) (n3 : n ≤ 3) (k : ∀ q H', SqT K H' q ((names3.take n).map V.str) → Same H H' → Q (.ref q) H') : L2.rSlA K (.ref VA) none (some (n : Int)) H Q := by
  refine ⟨VA, _, rfl, TV H, fun h => k VA H ?_ fun _ _ e => e, fun h p hp => k p _ ?_ (Same.new hp)⟩
  · have : n = 3 := by
      have := h.2
      match n, n1, n3, this with
      | 1, _, _, h => exact absurd h (by decide)
      | 2, _, _, h => exact absurd h (by decide)
      | 3, _, _, _ => rfl
    subst this
    exact TV H
  · refine SqT.at ?_
    rw [upd_same]
    match n, n1, n3 with
    | 1, _, _ => rfl
    | 2, _, _ => rfl
    | 3, _, _ => rfl
theorem dp_strs {H : Hp} : ∀ ys : List Str, DpAll K H (ys.map V.str) (ys.map PyData.str)
  | [] => .nil
  | y :: r => .cons (.str y) (dp_strs r)
theorem plain_strs : ∀ ys : List Str, PyData.plainAll (ys.map PyData.str) = true
  | [] => rfl
  | _ :: r => plain_strs r
theorem any_name {k n : Nat} (h : k < n) (n3 : n ≤ 3) : (((names3.take n).map PyData.str).any fun z => PyData.eqv z (.str (nameK k))) = true := by
  match n, n3, k, h with
  | 1, _, 0, _ => decide +kernel
  | 2, _, 0, _ => decide +kernel
  | 2, _, 1, _ => decide +kernel
  | 3, _, 0, _ => decide +kernel
  | 3, _, 1, _ => decide +kernel
  | 3, _, 2, _ => decide +kernel
theorem caret_len : (("^" : Str).length == 0) = false := by decide +kernel
theorem x_parC {a : Str} {H : Hp} {Q : VK} : rParT (.str a) [.str "^"] H Q = (a.length ≤ sizeLine ∧ ∀ p, H p = none → Q (.ref p) (upd H p (.tup [.str (Txt.partition a "^").1, .str (Txt.partition a "^").2.1, .str (Txt.partition a "^").2.2]))) := x_parT caret_len
theorem tup_index (TV : ∀ H : Hp, SqT K H VA (names3.map V.str)) {k : Nat} (h : k < 3) {H : Hp} {Q : VK} (q : Q (.int (k : Nat)) H) : rTupIx K (.ref VA) [.str (nameK k)] H Q := by
  refine ⟨VA, names3, nameK k, k, rfl, rfl, TV H, ?_, ?_, q⟩
  · match k, h with
    | 0, _ => rfl
    | 1, _ => rfl
    | 2, _ => rfl
  · match k, h with
    | 0, _ => intro m hm; omega
    | 1, _ =>
      intro m hm
      obtain rfl : m = 0 := by omega
      decide +kernel
    | 2, _ =>
      intro m hm
      rcases (show m = 0 ∨ m = 1 by omega) with rfl | rfl
      · decide +kernel
      · decide +kernel
theorem pure_rpower (TV : ∀ H : Hp, SqT K H VA (names3.map V.str)) (TY : ∀ H : Hp, tyV K "tuple" (.ref VA) H) (vs : List V) (H : Hp) (Q : VK) (E : XK) (h : spRPower vs H Q E) : t_rpower P0 K mg C Z D BN PC VA BP f_place E { nx := fun _ H' => Q .non H', rt := Q } (start ["word", "dimension", "name", "caret", "exponent"] vs) H := by
  obtain ⟨k, e, n, rfl, kn, n3, e1, e16, q⟩ := h
  show t_rpower P0 K mg C Z D BN PC VA BP f_place E _ [some (.str (wordS k e)), some (.int n), none, none, none] H
  have k3 : k < 3 := by omega
  have tk := tl_nameK k3
  have tc : tl "^" = 94 :: [] := by decide +kernel
  obtain ⟨m, rfl⟩ : ∃ m : Nat, n = m := ⟨n.toNat, by omega⟩
  have big : ∀ n : Nat, n ≤ 100000 → n ≤ sizeLine := fun n hn => Nat.le_trans hn (by decide)
  have be : Bd 900 e := .lit _ (by omega) (by omega) (by decide)
  have te : tl (Str.ofString (toString e)) = numD e.natAbs := by rw [tl_int, int_pos (by omega)]
  have le : (numD e.natAbs).length ≤ 2 := num_len (k := 2) (by decide) (by omega)
  have lk : (nameK k).length = 1 := by rw [tl_len, tk]; rfl
  have l1 : ("^" : Str).length = 1 := by decide +kernel
  have lw : (wordS k e).length ≤ 10 := by
    unfold wordS
    split
    · omega
    · rw [add_len, add_len, tl_len (Str.ofString (toString e)), te]
      omega
  have rest : ∀ (ca ex : Str) (H1 : Hp), Same H H1 → (e = 1 → ca = Str.empty) → (e ≠ 1 → ca = "^" ∧ ex = Str.ofString (toString e)) → t_rpower_1 P0 K mg C Z D BN PC VA BP f_place E { nx := fun _ H' => Q .non H', rt := Q } [some (.str (wordS k e)), some (.int (m : Int)), some (.str (nameK k)), some (.str ca), some (.str ex)] H1 := by
    intro ca ex H1 s1 h1 h2
    unfold t_rpower_1
    rw [x_seq]
    simp only [x_if, x_test, x_B, x_op, x_un, x_varS, x_var0, x_c, x_I0, x_I, x_U, x_bl, x_ret, x_next, x_eqS, x_neS, x_m0, x_m1, x_isStr, x_SM, x_addT, x_slS, x_lenS, x_strI, x_mulS, x_startT, x_findT, x_preT, x_lstT, x_ascT, x_digT, x_jn, x_js0, x_js1, x_isS, x_fmt, x_fmtS, x_divW, x_truK, x_truS, x_raiseT, x_asg, x_name, x_set0, x_setS, x_drop, x_cb, x_cons, x_nil, x_int1, x_abs1, x_max2, x_gcd, x_gsub, x_sl, x_part, x_nopart, x_int, x_call, x_lst, x_tup, x_not, x_and, x_or, x_andV, x_orV, x_notV, x_ifE, x_eqI, x_neI, x_eqB, x_neB, x_tbm, x_never, x_make, x_meth, x_isII, x_isIC, x_bool1, decide_eq_true_eq, Bool.false_eq_true, if_false, if_true, List.append_nil, List.nil_append, List.cons_append]
    refine sl_names TV (by omega) (by omega) fun sl H2 hsl s2 => ?_
    refine ⟨.str (nameK k), _, .str _, .tup hsl (dp_strs _), rfl, plain_strs _, by show 0 ≤ 60; decide, ?_⟩
    rw [any_name (show k < m by omega) (by omega)]
    refine ⟨false, rfl, ?_⟩
    rw [if_neg (by decide)]
    have s2 := s1.trans s2
    rw [x_seq]
    simp only [x_if, x_not, x_truK, x_varS, x_var0]
    by_cases he : e = 1
    · rw [h1 he]
      refine ⟨false, ⟨by decide, rfl⟩, ?_⟩
      rw [if_pos (by decide)]
      simp only [x_seq, x_if, x_test, x_B, x_op, x_un, x_varS, x_var0, x_c, x_I0, x_I, x_U, x_bl, x_ret, x_next, x_eqS, x_neS, x_m0, x_m1, x_isStr, x_SM, x_addT, x_slS, x_lenS, x_strI, x_mulS, x_startT, x_findT, x_preT, x_lstT, x_ascT, x_digT, x_jn, x_js0, x_js1, x_isS, x_fmt, x_fmtS, x_divW, x_truK, x_truS, x_raiseT, x_asg, x_name, x_set0, x_setS, x_drop, x_cb, x_cons, x_nil, x_int1, x_abs1, x_max2, x_gcd, x_gsub, x_sl, x_part, x_nopart, x_int, x_call, x_lst, x_tup, x_not, x_and, x_or, x_andV, x_orV, x_notV, x_ifE, x_eqI, x_neI, x_eqB, x_neB, x_tbm, x_never, x_make, x_meth, x_isII, x_isIC, x_bool1, decide_eq_true_eq, Bool.false_eq_true, if_false, if_true, List.append_nil, List.nil_append, List.cons_append]
      refine ⟨TY _, tup_index TV k3 ?_⟩
      try simp only [x_if, x_test, x_B, x_op, x_un, x_varS, x_var0, x_c, x_I0, x_I, x_U, x_bl, x_ret, x_next, x_eqS, x_neS, x_m0, x_m1, x_isStr, x_SM, x_addT, x_slS, x_lenS, x_strI, x_mulS, x_startT, x_findT, x_preT, x_lstT, x_ascT, x_digT, x_jn, x_js0, x_js1, x_isS, x_fmt, x_fmtS, x_divW, x_truK, x_truS, x_raiseT, x_asg, x_name, x_set0, x_setS, x_drop, x_cb, x_cons, x_nil, x_int1, x_abs1, x_max2, x_gcd, x_gsub, x_sl, x_part, x_nopart, x_int, x_call, x_lst, x_tup, x_not, x_and, x_or, x_andV, x_orV, x_notV, x_ifE, x_eqI, x_neI, x_eqB, x_neB, x_tbm, x_never, x_make, x_meth, x_isII, x_isIC, x_bool1, decide_eq_true_eq, Bool.false_eq_true, if_false, if_true, List.append_nil, List.nil_append, List.cons_append]
      subst he
      exact ⟨by show 2 ≤ sizeLine; decide, fun p hp => q p _ upd_same (Same.new' s2 hp)⟩
    · obtain ⟨rfl, rfl⟩ := h2 he
      refine ⟨true, ⟨by decide +kernel, by decide +kernel⟩, ?_⟩
      rw [if_neg (by decide)]
      simp only [x_seq, x_if, x_test, x_B, x_op, x_un, x_varS, x_var0, x_c, x_I0, x_I, x_U, x_bl, x_ret, x_next, x_eqS, x_neS, x_m0, x_m1, x_isStr, x_SM, x_addT, x_slS, x_lenS, x_strI, x_mulS, x_startT, x_findT, x_preT, x_lstT, x_ascT, x_digT, x_jn, x_js0, x_js1, x_isS, x_fmt, x_fmtS, x_divW, x_truK, x_truS, x_raiseT, x_asg, x_name, x_set0, x_setS, x_drop, x_cb, x_cons, x_nil, x_int1, x_abs1, x_max2, x_gcd, x_gsub, x_sl, x_part, x_nopart, x_int, x_call, x_lst, x_tup, x_not, x_and, x_or, x_andV, x_orV, x_notV, x_ifE, x_eqI, x_neI, x_eqB, x_neB, x_tbm, x_never, x_make, x_meth, x_isII, x_isIC, x_bool1, decide_eq_true_eq, Bool.false_eq_true, if_false, if_true, List.append_nil, List.nil_append, List.cons_append]
      have dg : digs (tl (Str.ofString (toString e))) = true := by
        rw [te]
        exact digs_iff.mpr ⟨num_ne _, num_dig _⟩
      obtain ⟨d1, d2⟩ := isdigit_ascii (Str.ofString (toString e))
      have ha : Txt.isascii (Str.ofString (toString e)) = true := by
        cases h : Txt.isascii (Str.ofString (toString e)) with
        | true => rfl
        | false => rw [d2 h] at dg; cases dg
      have hd := (d1 ha).trans dg
      have lx : (Str.ofString (toString e)).length ≤ 2 := by rw [tl_len, te]; exact le
      refine ⟨big _ (by omega), ?_⟩
      rw [if_neg (by omega), ha, if_neg (by decide), hd, if_neg (by decide)]
      refine ⟨TY _, tup_index TV k3 ?_⟩
      have iv : rIntT [.str (Str.ofString (toString e))] H2 = fun Q => Q (.int e) H2 := by
        funext Q
        rw [x_intT (int_digits (by rw [te]; exact num_dig _) (by rw [te]; exact num_ne _) (by rw [te]; omega)) (by omega), te, num_val]
        congr 2
        omega
      rw [iv]
      exact ⟨by show 2 ≤ sizeLine; decide, fun p hp => q p _ upd_same (Same.new' s2 hp)⟩
  unfold t_rpower
  rw [x_seq]
  simp only [x_if, x_test, x_B, x_op, x_un, x_varS, x_var0, x_c, x_I0, x_I, x_U, x_bl, x_ret, x_next, x_eqS, x_neS, x_m0, x_m1, x_isStr, x_SM, x_addT, x_slS, x_lenS, x_strI, x_mulS, x_startT, x_findT, x_preT, x_lstT, x_ascT, x_digT, x_jn, x_js0, x_js1, x_isS, x_fmt, x_fmtS, x_divW, x_truK, x_truS, x_raiseT, x_asg, x_name, x_set0, x_setS, x_drop, x_cb, x_cons, x_nil, x_int1, x_abs1, x_max2, x_gcd, x_gsub, x_sl, x_part, x_nopart, x_int, x_call, x_lst, x_tup, x_not, x_and, x_or, x_andV, x_orV, x_notV, x_ifE, x_eqI, x_neI, x_eqB, x_neB, x_tbm, x_never, x_make, x_meth, x_isII, x_isIC, x_bool1, decide_eq_true_eq, Bool.false_eq_true, if_false, if_true, List.append_nil, List.nil_append, List.cons_append, x_parC]
  refine ⟨big _ (by omega), fun p hp => ?_⟩
  have s1 : Same H (upd H p (.tup [.str (Txt.partition (wordS k e) "^").1, .str (Txt.partition (wordS k e) "^").2.1, .str (Txt.partition (wordS k e) "^").2.2])) := Same.new hp
  refine x_tup3 upd_same ?_
  by_cases h1 : e = 1
  · have ew : Txt.partition (wordS k e) "^" = (nameK k, Str.empty, Str.empty) := by
      unfold wordS
      rw [if_pos h1]
      exact TL.partition_none tc (by rw [tk]; simp; omega)
    rw [ew] at s1 ⊢
    exact rest _ _ _ s1 (fun _ => rfl) (fun z => absurd h1 z)
  · have ew : Txt.partition (wordS k e) "^" = (nameK k, Str.ofString "^", Str.ofString (toString e)) := by
      unfold wordS
      rw [if_neg h1]
      exact TL.partition_app tc (by rw [tk]; simp; omega)
    rw [ew] at s1 ⊢
    exact rest _ _ _ s1 (fun z => absurd z h1) (fun _ => ⟨rfl, rfl⟩)
end
end SpX

set_option Elab.async false
set_option linter.all false
set_option maxRecDepth 100000
set_option maxHeartbeats 2000000
set_option exponentiation.threshold 20000
/-! k65: one term is read. -/
namespace SpX
open PySem PySem.Spec NumText L2 StX RZ
open TL (tl)
/-! ### the words of a monomial, as texts -/
def pairK (k : Nat) (e : Int) : List (Nat × Int) := if e = 0 then [] else [(k, e)]
def pairsK : Nat → List Int → List (Nat × Int)
  | _, [] => []
  | k, e :: r => pairK k e ++ pairsK (k + 1) r
def wordsS (es : List Int) : List Str := (pairsK 0 es).map fun p => wordS p.1 p.2
theorem tl_wordS {k : Nat} {e : Int} (hk : k < 3) (he : 1 ≤ e) : [tl (wordS k e)] = wd k e := by
  unfold wordS wd
  by_cases h : e = 1
  · rw [if_pos h, if_pos h, tl_nameK hk]
  · rw [if_neg h, if_neg h, if_pos (by omega), TL.tl_append, TL.tl_append, tl_nameK hk, tl_int, int_pos (by omega), show tl "^" = [94] from by decide +kernel, List.append_assoc]
theorem wd_zero {k : Nat} : wd k 0 = [] := by
  unfold wd
  rw [if_neg (by decide), if_neg (by decide)]
theorem tl_wordsS : ∀ (es : List Int) (k : Nat), (∀ x ∈ es, 0 ≤ x) → k + es.length ≤ 3 → ((pairsK k es).map fun p => tl (wordS p.1 p.2)) = ((List.range es.length).map fun j => wd (k + j) (es.getD j 0)).flatten
  | [], _, _, _ => rfl
  | e :: r, k, hp, hl => by
    have ih := tl_wordsS r (k + 1) (fun x hx => hp x (by simp [hx])) (by simp at hl; omega)
    rw [List.length_cons, List.range_succ_eq_map, List.map_cons, List.flatten_cons, List.map_map]
    show ((pairK k e ++ pairsK (k + 1) r).map fun p => tl (wordS p.1 p.2)) = _
    rw [List.map_append, ih]
    have e1 : (pairK k e).map (fun p => tl (wordS p.1 p.2)) = wd (k + 0) ((e :: r).getD 0 0) := by
      show _ = wd k e
      unfold pairK
      by_cases h : e = 0
      · rw [if_pos h, h, wd_zero]
        rfl
      · rw [if_neg h]
        have := hp e (by simp)
        exact tl_wordS (by simp at hl; omega) (by omega)
    rw [e1]
    congr 2
    refine List.map_congr_left fun j _ => ?_
    show wd (k + 1 + j) (r.getD j 0) = wd (k + (j + 1)) ((e :: r).getD (j + 1) 0)
    rw [show k + 1 + j = k + (j + 1) from by omega]
    rfl
theorem words_tl {es : List Int} (x : Exps es) : (wordsS es).map tl = wordsD es := by
  have := tl_wordsS es 0 x.pos (by have := x.three; omega)
  unfold wordsS wordsD preD
  rw [List.map_map]
  simp only [Nat.zero_add] at this
  exact this
/-- what the words set -/
def putAll (l : List Int) (ps : List (Nat × Int)) : List Int := ps.foldl (fun l p => l.set p.1 p.2) l
theorem putAll_es {es : List Int} (x : Exps es) : putAll (List.replicate es.length 0) (pairsK 0 es) = es := by
  have h3 := x.three
  match es, h3 with
  | [], _ => rfl
  | [a], _ =>
    by_cases ha : a = 0 <;> simp [pairsK, pairK, putAll, ha, List.replicate]
  | [a, b], _ =>
    by_cases ha : a = 0 <;> by_cases hb : b = 0 <;> simp [pairsK, pairK, putAll, ha, hb, List.replicate]
  | [a, b, c], _ =>
    by_cases ha : a = 0 <;> by_cases hb : b = 0 <;> by_cases hc : c = 0 <;> simp [pairsK, pairK, putAll, ha, hb, hc, List.replicate]
theorem pairs_mem {n : Nat} : ∀ (es : List Int) (k : Nat), (∀ x ∈ es, 0 ≤ x) → k + es.length = n → ∀ p ∈ pairsK k es, p.1 < n ∧ 1 ≤ p.2 ∧ p.2 ∈ es
  | [], _, _, _, p, hp => by simp [pairsK] at hp
  | e :: r, k, hx, hl, p, hp => by
    rcases List.mem_append.mp hp with hp | hp
    · unfold pairK at hp
      have h0 := hx e (by simp)
      split at hp
      · simp at hp
      · obtain rfl := List.mem_singleton.mp hp
        exact ⟨by rw [List.length_cons] at hl; show k < n; omega, by show 1 ≤ e; omega, by simp⟩
    · have hl' : k + 1 + r.length = n := by rw [List.length_cons] at hl; omega
      obtain ⟨a, b, c⟩ := pairs_mem r (k + 1) (fun x hx' => hx x (by simp [hx'])) hl' p hp
      exact ⟨a, b, by simp [c]⟩
/-! ### one term -/
def GivesTerm (C : Addr) (H : Hp) (es : List Int) (t b : Int) (Q : VK) : Prop := ∀ (o e r : Addr) (H' : Hp), H' o = some (.tup [.ref e, .ref r]) → ExpAt H' e es → RatAt C H' r t b → Same H H' → Q (.ref o) H'
def spRTerm (C BN : Addr) : Sp := fun vs H Q E => ∃ (w : Addr) (sign : Int) (es : List Int) (np : Option Str), vs = [.ref w, .int sign, .int es.length] ∧ (sign = 1 ∨ sign = -1) ∧ H w = some (.lst ((np.toList ++ wordsS es).map V.str)) ∧ Exps es ∧ wordsS es ≠ [] ∧
  match np with
  | none => GivesTerm C H es sign 1 Q
  | some D => D.length ≤ 20000 ∧ (∃ c l, tl D = c :: l ∧ 48 ≤ c ∧ c ≤ 57) ∧ match numOf (tl D) with
    | some (t, b) => GivesTerm C H es (t * sign) b Q
    | none => ∀ (d : Addr) (H' : Hp), H' d = some (.xd [("text", .str D)]) → Same H H' → E (.ref BN) (some d) H'
def t_rterm_3 (P : Program) (K : PySem.W.Frag) (mg : Str → Option Value) (C Z D BN PC VA BP f_place : Addr) (E : XK) : TS :=
    (tSeq (tAsg (tOp rRep (tLst (tCons (tC (.int 0)) tNil)) (tVar 2)) (gName 5))
    (tSeq (tFor (iList K (tVar 4)) (gName 6) ((tSeq (tAsg (tCall spRPower [] E0 (tCons (tVar 6) (tCons (tVar 2) tNil))) (gTup K 2 (gCons (gName 7) (gCons (gName 8) gNil))))
    (tAsg (tVar 8) (gSub (tVar 5) (tVar 7) rSetL)))))
    (tRet (tTup (tCons (tCB rTupA (tCons (tVar 5) tNil)) (tCons (tVar 3) tNil))))))
def t_rterm (P : Program) (K : PySem.W.Frag) (mg : Str → Option Value) (C Z D BN PC VA BP f_place : Addr) (E : XK) : TS :=
    (tSeq (tAsg (tMake C (spInit C Z) [.int 1] E (tCons (tVar 1) tNil)) (gName 3))
    (tSeq (tAsg (tVar 0) (gName 4))
    (tSeq (tIfS (tAnd (tTruK K (tVar 0)) (tB (tM0 rDigT (tSl rSlS (tOp rIx1 (tVar 0) (tC (.int 0))) tNoPart (tPart (tC (.int 1))))))) (tSeq (tAsg (tOp (rOwnR C (spRmulW C) E0) (tVar 1) (tSM (spRead C BN) (fun _ => E) (tCons (tOp rIx1 (tVar 0) (tC (.int 0))) tNil))) (gName 3))
    (tAsg (tSl rSlA (tVar 0) (tPart (tC (.int 1))) tNoPart) (gName 4))) tNext)
    (tSeq (tAsg (tOp rRep (tLst (tCons (tC (.int 0)) tNil)) (tVar 2)) (gName 5))
    (tSeq (tFor (iList K (tVar 4)) (gName 6) ((tSeq (tAsg (tCall spRPower [] E0 (tCons (tVar 6) (tCons (tVar 2) tNil))) (gTup K 2 (gCons (gName 7) (gCons (gName 8) gNil))))
    (tAsg (tVar 8) (gSub (tVar 5) (tVar 7) rSetL)))))
    (tRet (tTup (tCons (tCB rTupA (tCons (tVar 5) tNil)) (tCons (tVar 3) tNil)))))))))
section
variable {P0 : Program} {K : PySem.W.Frag} {mg : Str → Option Value} {C Z D BN PC VA BP f_place : Addr}
theorem wordS_len {k : Nat} {e : Int} (hk : k < 3) (h1 : 1 ≤ e) (h2 : e ≤ 16) : (wordS k e).length ≤ 10 := by
  have lk : (nameK k).length = 1 := by rw [tl_len, tl_nameK hk]; rfl
  have l1 : ("^" : Str).length = 1 := by decide +kernel
  have le : (numD e.natAbs).length ≤ 2 := num_len (k := 2) (by decide) (by omega)
  unfold wordS
  split
  · omega
  · rw [add_len, add_len, tl_len (Str.ofString (toString e)), tl_int, int_pos (by omega)]
    omega
theorem rest_term {A0 : Option V} {pw r : Addr} {sign t b : Int} {es : List Int} {H : Hp} {Q : VK} {E : XK} (x : Exps es) (hw : H pw = some (.lst ((wordsS es).map V.str))) (hr : RatAt C H r t b) (k : GivesTerm C H es t b Q) :
    t_rterm_3 P0 K mg C Z D BN PC VA BP f_place E { nx := fun _ H' => Q .non H', rt := Q } [A0, some (.int sign), some (.int es.length), some (.ref r), some (.ref pw), none, none, none, none] H := by
  unfold t_rterm_3
  rw [x_seq]
  simp only [x_if, x_test, x_B, x_op, x_un, x_varS, x_var0, x_c, x_I0, x_I, x_U, x_bl, x_ret, x_next, x_eqS, x_neS, x_m0, x_m1, x_isStr, x_SM, x_addT, x_slS, x_lenS, x_strI, x_mulS, x_startT, x_findT, x_preT, x_lstT, x_ascT, x_digT, x_jn, x_js0, x_js1, x_isS, x_fmt, x_fmtS, x_divW, x_truK, x_truS, x_raiseT, x_asg, x_name, x_set0, x_setS, x_drop, x_cb, x_cons, x_nil, x_int1, x_abs1, x_max2, x_gcd, x_gsub, x_sl, x_part, x_nopart, x_int, x_call, x_lst, x_tup, x_not, x_and, x_or, x_andV, x_orV, x_notV, x_ifE, x_eqI, x_neI, x_eqB, x_neB, x_tbm, x_never, x_make, x_meth, x_isII, x_isIC, x_bool1, decide_eq_true_eq, Bool.false_eq_true, if_false, if_true, List.append_nil, List.nil_append, List.cons_append]
  refine ⟨by decide, fun z hz => ?_⟩
  have x3 := x.three
  refine ⟨z, _, [.int 0], rfl, rfl, upd_same, by omega, by omega, by rw [List.length_singleton, Nat.one_mul]; exact Nat.le_trans (show ((es.length : Nat) : Int).toNat ≤ 3 from by omega) (by decide), fun ex hex => ?_⟩
  have er : (List.replicate ((es.length : Nat) : Int).toNat [V.int 0]).flatten = (List.replicate es.length (0 : Int)).map V.int := by
    rw [Int.toNat_natCast, List.map_replicate]
    match es.length, x3 with
    | 0, _ => rfl
    | 1, _ => rfl
    | 2, _ => rfl
    | 3, _ => rfl
  rw [er]
  have e0 : (upd (upd H z (.lst [V.int 0])) ex (.lst ((List.replicate es.length (0 : Int)).map V.int))) ex = some (.lst ((List.replicate es.length (0 : Int)).map V.int)) := upd_same
  have nH : H ex = none := by
    cases e : H ex with
    | none => rfl
    | some o =>
      have := (Same.new (o := .lst [V.int 0]) hz) _ _ e
      rw [hex] at this
      cases this
  have s0 : Same H (upd (upd H z (.lst [V.int 0])) ex (.lst ((List.replicate es.length (0 : Int)).map V.int))) := Same.new' (Same.new hz) hex
  generalize upd (upd H z (.lst [V.int 0])) ex (.lst ((List.replicate es.length (0 : Int)).map V.int)) = H1 at e0 s0 ⊢
  dsimp only
  rw [x_seq]
  have plen : ∀ l : List (Nat × Int), ∀ l0 : List Int, (putAll l0 l).length = l0.length := by
    intro l
    induction l with
    | nil => intro l0; rfl
    | cons p r ih =>
      intro l0
      show (putAll (l0.set p.1 p.2) r).length = _
      rw [ih, List.length_set]
  refine for_lstV (a := pw) (xs := (wordsS es).map V.str) (fun Q => by simp only [x_seq, x_if, x_test, x_B, x_op, x_un, x_varS, x_var0, x_c, x_I0, x_I, x_U, x_bl, x_ret, x_next, x_eqS, x_neS, x_m0, x_m1, x_isStr, x_SM, x_addT, x_slS, x_lenS, x_strI, x_mulS, x_startT, x_findT, x_preT, x_lstT, x_ascT, x_digT, x_jn, x_js0, x_js1, x_isS, x_fmt, x_fmtS, x_divW, x_truK, x_truS, x_raiseT, x_asg, x_name, x_set0, x_setS, x_drop, x_cb, x_cons, x_nil, x_int1, x_abs1, x_max2, x_gcd, x_gsub, x_sl, x_part, x_nopart, x_int, x_call, x_lst, x_tup, x_not, x_and, x_or, x_andV, x_orV, x_notV, x_ifE, x_eqI, x_neI, x_eqB, x_neB, x_tbm, x_never, x_make, x_meth, x_isII, x_isIC, x_bool1, decide_eq_true_eq, Bool.false_eq_true, if_false, if_true, List.append_nil, List.nil_append, List.cons_append]) (fun i σ H' => ∃ A B C, σ = [A0, some (.int sign), some (.int es.length), some (.ref r), some (.ref pw), some (.ref ex), A, B, C] ∧ Same H H' ∧ H' ex = some (.lst ((putAll (List.replicate es.length 0) ((pairsK 0 es).take i)).map V.int))) ⟨none, none, none, rfl, s0, e0⟩ (fun i σ H' _ s => ?_) (fun i y σ H' hy s => ?_) fun σ H' s => ?_
  · obtain ⟨_, _, _, _, s, _⟩ := s
    exact s _ _ hw
  · obtain ⟨A, B, C', rfl, s, hx⟩ := s
    unfold wordsS at hy
    rw [List.map_map, List.getElem?_map] at hy
    obtain ⟨p, hp, rfl⟩ : ∃ p, (pairsK 0 es)[i]? = some p ∧ y = .str (wordS p.1 p.2) := by
      cases e : (pairsK 0 es)[i]? with
      | none => rw [e] at hy; cases hy
      | some p => rw [e] at hy; exact ⟨p, rfl, (Option.some.inj hy).symm⟩
    obtain ⟨p1, p2, p3⟩ := pairs_mem (n := es.length) es 0 x.pos (by omega) p (List.mem_of_getElem? hp)
    have p16 : p.2 ≤ 16 := by
      obtain ⟨j, hj⟩ := List.getElem?_of_mem p3
      exact (exps_le x hj).2
    show tSeq _ _ _ [A0, some (.int sign), some (.int es.length), some (.ref r), some (.ref pw), some (.ref ex), some (.str (wordS p.1 p.2)), B, C'] H'
    rw [x_seq]
    simp only [x_asg, x_call, x_cons, x_nil, x_varS, x_var0, List.append_nil]
    refine ⟨p.1, p.2, _, rfl, by omega, by omega, p2, p16, fun o H2 ho s2 => ?_⟩
    refine x_tup2 ho ?_
    show tAsg (tVar 8) (gSub (tVar 5) (tVar 7) rSetL) _ [A0, some (.int sign), some (.int es.length), some (.ref r), some (.ref pw), some (.ref ex), some (.str (wordS p.1 p.2)), some (.int (p.1 : Int)), some (.int p.2)] H2
    have hx2 := s2 _ _ hx
    have ix : ixN ((putAll (List.replicate es.length 0) ((pairsK 0 es).take i)).map V.int).length (p.1 : Int) = some p.1 := by
      rw [List.length_map, plen, List.length_replicate]
      unfold ixN
      rw [if_pos (by omega), if_pos (by omega)]
      rfl
    simp only [x_if, x_test, x_B, x_op, x_un, x_varS, x_var0, x_c, x_I0, x_I, x_U, x_bl, x_ret, x_next, x_eqS, x_neS, x_m0, x_m1, x_isStr, x_SM, x_addT, x_slS, x_lenS, x_strI, x_mulS, x_startT, x_findT, x_preT, x_lstT, x_ascT, x_digT, x_jn, x_js0, x_js1, x_isS, x_fmt, x_fmtS, x_divW, x_truK, x_truS, x_raiseT, x_asg, x_name, x_set0, x_setS, x_drop, x_cb, x_cons, x_nil, x_int1, x_abs1, x_max2, x_gcd, x_gsub, x_sl, x_part, x_nopart, x_int, x_call, x_lst, x_tup, x_not, x_and, x_or, x_andV, x_orV, x_notV, x_ifE, x_eqI, x_neI, x_eqB, x_neB, x_tbm, x_never, x_make, x_meth, x_isII, x_isIC, x_bool1, decide_eq_true_eq, Bool.false_eq_true, if_false, if_true, List.append_nil, List.nil_append, List.cons_append, x_setL hx2 ix]
    refine ⟨_, _, _, rfl, fun c o hc => ?_, ?_⟩
    · rw [upd_ne (ne_of_none hc nH)]
      exact s2 _ _ (s _ _ hc)
    · rw [upd_same, List.take_succ, hp]
      unfold putAll
      rw [List.foldl_append, ← List.map_set]
      rfl
  · obtain ⟨A, B, C', rfl, s, hx⟩ := s
    have el : ((wordsS es).map V.str).length = (pairsK 0 es).length := by unfold wordsS; simp
    rw [el, List.take_length, putAll_es x] at hx
    simp only [x_seq, x_if, x_test, x_B, x_op, x_un, x_varS, x_var0, x_c, x_I0, x_I, x_U, x_bl, x_ret, x_next, x_eqS, x_neS, x_m0, x_m1, x_isStr, x_SM, x_addT, x_slS, x_lenS, x_strI, x_mulS, x_startT, x_findT, x_preT, x_lstT, x_ascT, x_digT, x_jn, x_js0, x_js1, x_isS, x_fmt, x_fmtS, x_divW, x_truK, x_truS, x_raiseT, x_asg, x_name, x_set0, x_setS, x_drop, x_cb, x_cons, x_nil, x_int1, x_abs1, x_max2, x_gcd, x_gsub, x_sl, x_part, x_nopart, x_int, x_call, x_lst, x_tup, x_not, x_and, x_or, x_andV, x_orV, x_notV, x_ifE, x_eqI, x_neI, x_eqB, x_neB, x_tbm, x_never, x_make, x_meth, x_isII, x_isIC, x_bool1, decide_eq_true_eq, Bool.false_eq_true, if_false, if_true, List.append_nil, List.nil_append, List.cons_append, x_tupL hx]
    intro e he
    refine ⟨by show 2 ≤ sizeLine; decide, fun o ho => ?_⟩
    have s2 : Same H (upd H' e (.tup (es.map V.int))) := Same.new' s he
    have he2 : ExpAt (upd H' e (.tup (es.map V.int))) e es := upd_same
    have hr2 := hr.same s2
    generalize upd H' e (.tup (es.map V.int)) = H3 at s2 he2 hr2 ho ⊢
    have s3 : Same H3 (upd H3 o (.tup [.ref e, .ref r])) := Same.new ho
    exact k o e r _ upd_same (s3 _ _ he2) (hr2.same s3) (s2.trans s3)
theorem isdig1 {x : Str} {c : Nat} {l : List Nat} (h : tl x = c :: l) (hc : 48 ≤ c ∧ c ≤ 57) : Txt.isdigit (cutS x none (some 1)) = true := by
  have e : tl (cutS x none (some ((1 : Nat) : Int))) = [c] := by rw [tl_cut_to, h]; rfl
  have dg : digs (tl (cutS x none (some ((1 : Nat) : Int)))) = true := by
    rw [e]
    exact digs_iff.mpr ⟨by simp, fun d hd => by rw [List.mem_singleton.mp hd]; exact hc⟩
  obtain ⟨d1, d2⟩ := isdigit_ascii (cutS x none (some ((1 : Nat) : Int)))
  have ha : Txt.isascii (cutS x none (some ((1 : Nat) : Int))) = true := by
    cases h : Txt.isascii (cutS x none (some ((1 : Nat) : Int))) with
    | true => rfl
    | false => rw [d2 h] at dg; cases dg
  exact (d1 ha).trans dg
theorem isdig0 {k : Nat} {e : Int} (hk : k < 3) (he : 1 ≤ e) : Txt.isdigit (cutS (wordS k e) none (some 1)) = false := by
  have hw := tl_wordS hk he
  have h : ∃ l, tl (wordS k e) = (120 + k) :: l := by
    unfold wd at hw
    split at hw
    · exact ⟨[], (List.cons.inj hw).1⟩
    · split at hw
      · exact ⟨_, (List.cons.inj hw).1⟩
      · cases hw
  obtain ⟨l, h⟩ := h
  have e1 : tl (cutS (wordS k e) none (some ((1 : Nat) : Int))) = [120 + k] := by rw [tl_cut_to, h]; rfl
  obtain ⟨d1, d2⟩ := isdigit_ascii (cutS (wordS k e) none (some ((1 : Nat) : Int)))
  have nd : digs (tl (cutS (wordS k e) none (some ((1 : Nat) : Int)))) = false := by
    rw [e1]
    cases h : digs [120 + k] with
    | false => rfl
    | true =>
      have := (digs_iff.mp h).2 (120 + k) (by simp)
      omega
  have ha : Txt.isascii (cutS (wordS k e) none (some ((1 : Nat) : Int))) = true := by
    unfold Txt.isascii
    rw [← Array.all_toList]
    show (tl (cutS (wordS k e) none (some ((1 : Nat) : Int)))).all (fun x => decide (x < 128)) = true
    rw [e1]
    simp
    omega
  exact (d1 ha).trans nd
theorem pure_rterm (vs : List V) (H : Hp) (Q : VK) (E : XK) (h : spRTerm C BN vs H Q E) : t_rterm P0 K mg C Z D BN PC VA BP f_place E { nx := fun _ H' => Q .non H', rt := Q } (start ["words", "sign", "dimension", "number", "powers", "exponents", "word", "index", "exponent"] vs) H := by
  obtain ⟨w, sign, es, np, rfl, hs, hw, x, ne, hnp⟩ := h
  show t_rterm P0 K mg C Z D BN PC VA BP f_place E _ [some (.ref w), some (.int sign), some (.int es.length), none, none, none, none, none, none] H
  unfold t_rterm
  rw [x_seq]
  simp only [x_if, x_test, x_B, x_op, x_un, x_varS, x_var0, x_c, x_I0, x_I, x_U, x_bl, x_ret, x_next, x_eqS, x_neS, x_m0, x_m1, x_isStr, x_SM, x_addT, x_slS, x_lenS, x_strI, x_mulS, x_startT, x_findT, x_preT, x_lstT, x_ascT, x_digT, x_jn, x_js0, x_js1, x_isS, x_fmt, x_fmtS, x_divW, x_truK, x_truS, x_raiseT, x_asg, x_name, x_set0, x_setS, x_drop, x_cb, x_cons, x_nil, x_int1, x_abs1, x_max2, x_gcd, x_gsub, x_sl, x_part, x_nopart, x_int, x_call, x_lst, x_tup, x_not, x_and, x_or, x_andV, x_orV, x_notV, x_ifE, x_eqI, x_neI, x_eqB, x_neB, x_tbm, x_never, x_make, x_meth, x_isII, x_isIC, x_bool1, decide_eq_true_eq, Bool.false_eq_true, if_false, if_true, List.append_nil, List.nil_append, List.cons_append]
  have bs : Bd 8000 sign := by rcases hs with rfl | rfl <;> exact Nat.lt_of_lt_of_le (show _ < 2 ^ 2 by decide) (Nat.pow_le_pow_right (by decide) (by decide))
  refine fun r0 d n1 n2 n3 => make_at (x := sign) (y := 1) bs (.lit _ (by decide) (by decide) (by decide)) (by decide) n1 n2 n3 fun H1 u c hr hno s1 => ?_
  obtain ⟨rfl, rfl⟩ := hno.low.same (Low.int (i := sign)) hno.eq
  have hw1 := s1 _ _ hw
  have big : ∀ n : Nat, n ≤ 100000 → n ≤ sizeLine := fun n hn => Nat.le_trans hn (by decide)
  show tSeq _ (tSeq _ (t_rterm_3 P0 K mg C Z D BN PC VA BP f_place E)) _ _ _
  rw [x_seq]
  simp only [x_asg, x_varS, x_var0, x_name, x_setS, x_set0]
  rw [x_seq]
  simp only [x_if, x_and, x_truK, x_varS, x_var0]
  cases np with
  | none =>
    obtain ⟨y, hy⟩ : ∃ y, (wordsS es)[0]? = some y := by
      cases e : wordsS es with
      | nil => exact absurd e ne
      | cons y r => exact ⟨y, rfl⟩
    have hw1 : H1 w = some (.lst ((wordsS es).map V.str)) := hw1
    refine ⟨true, ?_, ?_⟩
    · have := tru_lst (K := K) hw1
      have e : (!((wordsS es).map V.str).isEmpty) = true := by
        cases e : wordsS es with
        | nil => exact absurd e ne
        | cons y r => rfl
      rwa [e] at this
    · rw [if_pos rfl]
      have a0 : atI ((wordsS es).map V.str) 0 = some (.str y) := atI_nat (j := 0) (by rw [List.getElem?_map, hy]; rfl)
      simp only [x_B, x_if, x_test, x_B, x_op, x_un, x_varS, x_var0, x_c, x_I0, x_I, x_U, x_bl, x_ret, x_next, x_eqS, x_neS, x_m0, x_m1, x_isStr, x_SM, x_addT, x_slS, x_lenS, x_strI, x_mulS, x_startT, x_findT, x_preT, x_lstT, x_ascT, x_digT, x_jn, x_js0, x_js1, x_isS, x_fmt, x_fmtS, x_divW, x_truK, x_truS, x_raiseT, x_asg, x_name, x_set0, x_setS, x_drop, x_cb, x_cons, x_nil, x_int1, x_abs1, x_max2, x_gcd, x_gsub, x_sl, x_part, x_nopart, x_int, x_call, x_lst, x_tup, x_not, x_and, x_or, x_andV, x_orV, x_notV, x_ifE, x_eqI, x_neI, x_eqB, x_neB, x_tbm, x_never, x_make, x_meth, x_isII, x_isIC, x_bool1, decide_eq_true_eq, Bool.false_eq_true, if_false, if_true, List.append_nil, List.nil_append, List.cons_append, x_ix hw1 a0]
      obtain ⟨p, hp, rfl⟩ : ∃ p, p ∈ pairsK 0 es ∧ y = wordS p.1 p.2 := by
        unfold wordsS at hy
        rw [List.getElem?_map] at hy
        cases e : (pairsK 0 es)[0]? with
        | none => rw [e] at hy; cases hy
        | some p => rw [e] at hy; exact ⟨p, List.mem_of_getElem? e, (Option.some.inj hy).symm⟩
      obtain ⟨p1, p2, p3⟩ := pairs_mem (n := es.length) es 0 x.pos (by omega) p hp
      have x3 := x.three
      have p16 : p.2 ≤ 16 := by
        obtain ⟨j, hj⟩ := List.getElem?_of_mem p3
        exact (exps_le x hj).2
      have lw := wordS_len (k := p.1) (e := p.2) (by omega) p2 p16
      refine ⟨big _ (by omega), ?_⟩
      rw [isdig0 (by omega) p2, if_neg (by decide)]
      exact rest_term x hw1 hr fun o e r H' a b c s => hnp o e r H' a b c (s1.trans s)
  | some N =>
    obtain ⟨lN, ⟨c, l, hc, hc2⟩, hnp⟩ := hnp
    have hw1 : H1 w = some (.lst (V.str N :: (wordsS es).map V.str)) := hw1
    refine ⟨true, tru_lst hw1, ?_⟩
    rw [if_pos rfl]
    simp only [x_B, x_if, x_test, x_B, x_op, x_un, x_varS, x_var0, x_c, x_I0, x_I, x_U, x_bl, x_ret, x_next, x_eqS, x_neS, x_m0, x_m1, x_isStr, x_SM, x_addT, x_slS, x_lenS, x_strI, x_mulS, x_startT, x_findT, x_preT, x_lstT, x_ascT, x_digT, x_jn, x_js0, x_js1, x_isS, x_fmt, x_fmtS, x_divW, x_truK, x_truS, x_raiseT, x_asg, x_name, x_set0, x_setS, x_drop, x_cb, x_cons, x_nil, x_int1, x_abs1, x_max2, x_gcd, x_gsub, x_sl, x_part, x_nopart, x_int, x_call, x_lst, x_tup, x_not, x_and, x_or, x_andV, x_orV, x_notV, x_ifE, x_eqI, x_neI, x_eqB, x_neB, x_tbm, x_never, x_make, x_meth, x_isII, x_isIC, x_bool1, decide_eq_true_eq, Bool.false_eq_true, if_false, if_true, List.append_nil, List.nil_append, List.cons_append, x_ix hw1 atI_0]
    refine ⟨big _ (by omega), ?_⟩
    rw [isdig1 hc hc2, if_pos rfl]
    rw [x_seq]
    simp only [x_if, x_test, x_B, x_op, x_un, x_varS, x_var0, x_c, x_I0, x_I, x_U, x_bl, x_ret, x_next, x_eqS, x_neS, x_m0, x_m1, x_isStr, x_SM, x_addT, x_slS, x_lenS, x_strI, x_mulS, x_startT, x_findT, x_preT, x_lstT, x_ascT, x_digT, x_jn, x_js0, x_js1, x_isS, x_fmt, x_fmtS, x_divW, x_truK, x_truS, x_raiseT, x_asg, x_name, x_set0, x_setS, x_drop, x_cb, x_cons, x_nil, x_int1, x_abs1, x_max2, x_gcd, x_gsub, x_sl, x_part, x_nopart, x_int, x_call, x_lst, x_tup, x_not, x_and, x_or, x_andV, x_orV, x_notV, x_ifE, x_eqI, x_neI, x_eqB, x_neB, x_tbm, x_never, x_make, x_meth, x_isII, x_isIC, x_bool1, decide_eq_true_eq, Bool.false_eq_true, if_false, if_true, List.append_nil, List.nil_append, List.cons_append, x_ix hw1 atI_0]
    refine ⟨N, rfl, big _ (by omega), ?_⟩
    cases he : numOf (tl N) with
    | none =>
      rw [he] at hnp
      exact fun d H' hd s => hnp d H' hd (s1.trans s)
    | some tb =>
      obtain ⟨t, b⟩ := tb
      rw [he] at hnp
      obtain ⟨_, b0, g, t60, b60⟩ := numOf_sound he
      dsimp only
      intro r2 H2 hr2 s2
      obtain ⟨d2, hr2'⟩ := id hr2
      have bt : Bd 2000 t := Nat.lt_of_lt_of_le t60 (Nat.le_trans (show 10 ^ 60 ≤ 2 ^ 200 by decide +kernel) (Nat.pow_le_pow_right (by decide) (by decide)))
      have bb : Bd 2000 b := Nat.lt_of_lt_of_le b60 (Nat.le_trans (show 10 ^ 60 ≤ 2 ^ 200 by decide +kernel) (Nat.pow_le_pow_right (by decide) (by decide)))
      have lo : Low (t * u) b := ⟨b0, by rcases hs with rfl | rfl <;> simpa [Int.natAbs_mul] using g⟩
      refine ⟨u, r2, d2, _, rfl, rfl, hr2', r2, t, b, u, rfl, hr2, ⟨b0, g⟩, bt, bb, Bd.mono (m := 2) (by unfold Bd; rcases hs with rfl | rfl <;> decide) (by decide), fun r3 H3 n d hr3 hn s3 => ?_⟩
      rw [Int.mul_one] at hn
      obtain ⟨rfl, rfl⟩ := hn.low.same lo hn.eq
      have hw3 := s3 _ _ (s2 _ _ hw1)
      simp only [x_if, x_test, x_B, x_op, x_un, x_varS, x_var0, x_c, x_I0, x_I, x_U, x_bl, x_ret, x_next, x_eqS, x_neS, x_m0, x_m1, x_isStr, x_SM, x_addT, x_slS, x_lenS, x_strI, x_mulS, x_startT, x_findT, x_preT, x_lstT, x_ascT, x_digT, x_jn, x_js0, x_js1, x_isS, x_fmt, x_fmtS, x_divW, x_truK, x_truS, x_raiseT, x_asg, x_name, x_set0, x_setS, x_drop, x_cb, x_cons, x_nil, x_int1, x_abs1, x_max2, x_gcd, x_gsub, x_sl, x_part, x_nopart, x_int, x_call, x_lst, x_tup, x_not, x_and, x_or, x_andV, x_orV, x_notV, x_ifE, x_eqI, x_neI, x_eqB, x_neB, x_tbm, x_never, x_make, x_meth, x_isII, x_isIC, x_bool1, decide_eq_true_eq, Bool.false_eq_true, if_false, if_true, List.append_nil, List.nil_append, List.cons_append, x_slA hw3]
      intro pw hpw
      have ec : cutV (V.str N :: (wordsS es).map V.str) (some 1) none = (wordsS es).map V.str := by
        show cutV (V.str N :: (wordsS es).map V.str) (some ((1 : Nat) : Int)) none = _
        unfold cutV
        rw [HT.sIx_none, HT.sIx_nat, Nat.min_eq_left (by simp)]
        exact List.take_of_length_le (by simp)
      rw [ec]
      exact rest_term x upd_same (hr3.same (Same.new hpw)) fun o e r H' a b c s => hnp o e r H' a b c (((s1.trans s2).trans s3).trans ((Same.new hpw).trans s))
end
end SpX

set_option Elab.async false
set_option linter.all false
set_option maxRecDepth 100000
set_option maxHeartbeats 2000000
set_option exponentiation.threshold 20000
/-! k65: a text of one term is read. -/
namespace SpX
open PySem PySem.Spec NumText L2 StX RZ
open TL (tl)
/-- the text of one term: its sign, its words -/
def TermText (sign : Int) (np : Option Str) (es : List Int) (a : Str) : Prop := tl a = (if sign = -1 then [45] else []) ++ TL.joinL [32] ((np.toList ++ wordsS es).map tl)
def TermPro (C BN : Addr) (H : Hp) (np : Option Str) (es : List Int) (sign : Int) (Q : VK) (E : XK) : Prop := match np with
  | none => ∀ l H', TermAt C H' l es sign 1 → Same H H' → Q (.ref l) H'
  | some D => D.length ≤ 20000 ∧ (∃ c l, tl D = c :: l ∧ 48 ≤ c ∧ c ≤ 57) ∧ 32 ∉ tl D ∧ 45 ∉ tl D ∧ 43 ∉ tl D ∧ match numOf (tl D) with
    | some (t, b) => ∀ l H', TermAt C H' l es (t * sign) b → Same H H' → Q (.ref l) H'
    | none => ∀ (d : Addr) (H' : Hp), H' d = some (.xd [("text", .str D)]) → Same H H' → E (.ref BN) (some d) H'
def spRTerms (C BN : Addr) : Sp := fun vs H Q E => ∃ (a : Str) (sign : Int) (es : List Int) (np : Option Str), vs = [.str a, .int es.length] ∧ (sign = 1 ∨ sign = -1) ∧ TermText sign np es a ∧ a.length ≤ 30000 ∧ Exps es ∧ wordsS es ≠ [] ∧ TermPro C BN H np es sign Q E
def t_rterms_3 (P : Program) (K : PySem.W.Frag) (mg : Str → Option Value) (C Z D BN PC VA BP f_place : Addr) (E : XK) : TS :=
    (tSeq (tFor (iList K (tM1 rSplT (tM1 rPreT (tVar 0) (tC (.str "-"))) (tC (.str " ")))) (gName 5) ((tIfS (tOr (tTest (tOp rEq (tVar 5) (tC (.str "+")))) (tTest (tOp rEq (tVar 5) (tC (.str "-"))))) (tSeq tNever
    (tSeq tNever
    tNever)) (tDrop (tBM K "list" rAppend (tVar 4) (tCons (tVar 5) tNil))))))
    (tSeq (tDrop (tBM K "list" rAppend (tVar 2) (tCons (tCall (spRTerm C BN) [] E (tCons (tVar 4) (tCons (tVar 3) (tCons (tVar 1) tNil)))) tNil)))
    (tRet (tVar 2))))
def t_rterms (P : Program) (K : PySem.W.Frag) (mg : Str → Option Value) (C Z D BN PC VA BP f_place : Addr) (E : XK) : TS :=
    (tSeq (tAsg (tLst tNil) (gName 2))
    (tSeq (tAsg (tIf (tB (tM1 rStartT (tVar 0) (tC (.str "-")))) (tUn (rU fun i => .int (-i)) (tC (.int 1))) (tC (.int 1))) (gName 3))
    (tSeq (tAsg (tLst tNil) (gName 4))
    (tSeq (tFor (iList K (tM1 rSplT (tM1 rPreT (tVar 0) (tC (.str "-"))) (tC (.str " ")))) (gName 5) ((tIfS (tOr (tTest (tOp rEq (tVar 5) (tC (.str "+")))) (tTest (tOp rEq (tVar 5) (tC (.str "-"))))) (tSeq tNever
    (tSeq tNever
    tNever)) (tDrop (tBM K "list" rAppend (tVar 4) (tCons (tVar 5) tNil))))))
    (tSeq (tDrop (tBM K "list" rAppend (tVar 2) (tCons (tCall (spRTerm C BN) [] E (tCons (tVar 4) (tCons (tVar 3) (tCons (tVar 1) tNil)))) tNil)))
    (tRet (tVar 2)))))))
section
variable {P0 : Program} {K : PySem.W.Frag} {mg : Str → Option Value} {C Z D BN PC VA BP f_place : Addr}
theorem space_len : ((" " : Str).length == 0) = false := by decide +kernel
theorem x_splS {a : Str} {H : Hp} {Q : VK} : rSplT (.str a) [.str " "] H Q = (a.length + 2 ≤ sizeLine ∧ ∀ p, H p = none → Q (.ref p) (upd H p (.lst ((Txt.split a " ").map V.str)))) := x_splT space_len
/-- no sign of the words is a blank, a plus or a dash -/
theorem word_signs {k : Nat} {e : Int} (hk : k < 3) (he : 1 ≤ e) : ∀ c ∈ tl (wordS k e), 48 ≤ c := by
  have hw := tl_wordS hk he
  intro c hc
  unfold wd at hw
  split at hw
  · rw [(List.cons.inj hw).1] at hc
    simp at hc
    omega
  · split at hw
    · rw [(List.cons.inj hw).1] at hc
      rcases List.mem_append.mp hc with hc | hc
      · simp at hc
        omega
      · rcases List.mem_append.mp hc with hc | hc
        · simp at hc
          omega
        · exact (num_dig _ c hc).1
    · cases hw
theorem words_signs {es : List Int} (x : Exps es) : ∀ y ∈ wordsS es, ∀ c ∈ tl y, 48 ≤ c := by
  intro y hy c hc
  obtain ⟨p, hp, rfl⟩ := List.mem_map.mp hy
  obtain ⟨p1, p2, p3⟩ := pairs_mem (n := es.length) es 0 x.pos (by omega) p hp
  have := x.three
  exact word_signs (by omega) p2 c hc
theorem split_words {b : Str} {ys : List Str} (h : tl b = TL.joinL [32] (ys.map tl)) (ne : ys ≠ []) (hs : ∀ y ∈ ys, 32 ∉ tl y) : Txt.split b " " = ys := by
  refine TL.map_tl_inj ?_
  rw [TL.split_spl b " " (by rw [tl_sp]; simp) (TL.kind_ok (by decide +kernel)), tl_sp, h]
  refine TL.spl_join (by simpa using ne) fun p hp => ?_
  obtain ⟨y, hy, rfl⟩ := List.mem_map.mp hp
  exact hs y hy
theorem join_head : ∀ (ls : List (List Nat)), ls ≠ [] → (∀ l ∈ ls, ∃ c r, l = c :: r ∧ c ≠ 45) → ∃ c r, TL.joinL [32] ls = c :: r ∧ c ≠ 45
  | [], h, _ => absurd rfl h
  | [l], _, h => by
    obtain ⟨c, r, rfl, hc⟩ := h l (by simp)
    exact ⟨c, r, rfl, hc⟩
  | l :: m :: k, _, h => by
    obtain ⟨c, r, rfl, hc⟩ := h l (by simp)
    exact ⟨c, _, rfl, hc⟩
theorem word_first {k : Nat} {e : Int} (hk : k < 3) (he : 1 ≤ e) : ∃ c r, tl (wordS k e) = c :: r ∧ c ≠ 45 := by
  have hw := tl_wordS hk he
  unfold wd at hw
  split at hw
  · exact ⟨_, _, (List.cons.inj hw).1, by omega⟩
  · split at hw
    · exact ⟨_, _, (List.cons.inj hw).1, by omega⟩
    · cases hw
theorem words_first {es : List Int} (x : Exps es) : ∀ y ∈ wordsS es, ∃ c r, tl y = c :: r ∧ c ≠ 45 := by
  intro y hy
  obtain ⟨p, hp, rfl⟩ := List.mem_map.mp hy
  obtain ⟨p1, p2, p3⟩ := pairs_mem (n := es.length) es 0 x.pos (by omega) p hp
  have := x.three
  exact word_first (by omega) p2
theorem neg_cons {c : Nat} {r : List Nat} (h : c ≠ 45) : neg? (c :: r) = false := by
  unfold neg?
  simpa using h
theorem pairs_le : ∀ (es : List Int) (k : Nat), (pairsK k es).length ≤ es.length
  | [], _ => Nat.le_refl _
  | e :: r, k => by
    have := pairs_le r (k + 1)
    show (pairK k e ++ pairsK (k + 1) r).length ≤ _
    rw [List.length_append, List.length_cons]
    unfold pairK
    split <;> simp <;> omega
theorem term_sign {ys : List Str} {sign : Int} {a : Str} (hs : sign = 1 ∨ sign = -1) (ne : ys ≠ []) (hf : ∀ y ∈ ys, ∃ c r, tl y = c :: r ∧ c ≠ 45) (ht : tl a = (if sign = -1 then [45] else []) ++ TL.joinL [32] (ys.map tl)) : neg? (tl a) = decide (sign = -1) ∧ body (tl a) = TL.joinL [32] (ys.map tl) := by
  obtain ⟨c, r, hj, hc⟩ := join_head (ys.map tl) (by simpa using ne) fun l hl => by
    obtain ⟨y, hy, rfl⟩ := List.mem_map.mp hl
    exact hf y hy
  rcases hs with rfl | rfl
  · rw [if_neg (by decide), List.nil_append] at ht
    rw [ht, hj]
    refine ⟨neg_cons hc, ?_⟩
    unfold body
    rw [neg_cons hc, if_neg (by decide)]
  · rw [if_pos rfl] at ht
    rw [ht, hj]
    exact ⟨rfl, rfl⟩
theorem rest_terms {a : Str} {l w : Addr} {sign : Int} {es : List Int} {np : Option Str} {A : Option V} {H0 H : Hp} {Q : VK} {E : XK} (hs : sign = 1 ∨ sign = -1) (hw : H w = some (.lst ((np.toList ++ wordsS es).map V.str))) (hl : H l = some (.lst [])) (n0 : H0 l = none) (s0 : Same H0 H) (x : Exps es) (ne : wordsS es ≠ [])
    (hnp : TermPro C BN H0 np es sign Q E) :
    tSeq (tDrop (tBM K "list" rAppend (tVar 2) (tCons (tCall (spRTerm C BN) [] E (tCons (tVar 4) (tCons (tVar 3) (tCons (tVar 1) tNil)))) tNil))) (tRet (tVar 2)) { nx := fun _ H' => Q .non H', rt := Q } [some (.str a), some (.int es.length), some (.ref l), some (.int sign), some (.ref w), A] H := by
  have give : ∀ (t b : Int), (∀ l H', TermAt C H' l es t b → Same H0 H' → Q (.ref l) H') → GivesTerm C H es t b (fun v H' => rAppend (.ref l) [v] H' fun _ H1 => tRet (tVar 2) { nx := fun _ H' => Q .non H', rt := Q } [some (.str a), some (.int es.length), some (.ref l), some (.int sign), some (.ref w), A] H1) := by
    intro t b k o e r H' ho he hr s
    have hl' := s _ _ hl
    rw [x_append hl' (by decide)]
    simp only [x_seq, x_if, x_test, x_B, x_op, x_un, x_varS, x_var0, x_c, x_I0, x_I, x_U, x_bl, x_ret, x_next, x_eqS, x_neS, x_m0, x_m1, x_isStr, x_SM, x_addT, x_slS, x_lenS, x_strI, x_mulS, x_startT, x_findT, x_preT, x_lstT, x_ascT, x_digT, x_jn, x_js0, x_js1, x_isS, x_fmt, x_fmtS, x_divW, x_truK, x_truS, x_raiseT, x_asg, x_name, x_set0, x_setS, x_drop, x_cb, x_cons, x_nil, x_int1, x_abs1, x_max2, x_gcd, x_gsub, x_sl, x_part, x_nopart, x_int, x_call, x_lst, x_tup, x_not, x_and, x_or, x_andV, x_orV, x_notV, x_ifE, x_eqI, x_neI, x_eqB, x_neB, x_tbm, x_never, x_make, x_meth, x_isII, x_isIC, x_bool1, decide_eq_true_eq, Bool.false_eq_true, if_false, if_true, List.append_nil, List.nil_append, List.cons_append]
    have nf : ∀ {c : Addr} {q : HO}, H' c = some q → c ≠ l → (upd H' l (.lst [.ref o])) c = some q := fun hc n => by rw [upd_ne n]; exact hc
    have no : o ≠ l := fun e => by rw [e, hl'] at ho; cases ho
    have ne' : e ≠ l := fun e1 => by unfold ExpAt at he; rw [e1, hl'] at he; cases he
    obtain ⟨d, hr⟩ := id hr
    have nr : r ≠ l := fun e1 => by rw [e1, hl'] at hr; cases hr
    refine k l _ ⟨o, e, r, upd_same, nf ho no, nf he ne', d, nf hr nr⟩ fun c q hc => ?_
    rw [upd_ne (ne_of_none hc n0)]
    exact s _ _ (s0 _ _ hc)
  have big : ∀ n : Nat, n ≤ 100000 → n ≤ sizeLine := fun n hn => Nat.le_trans hn (by decide)
  rw [x_seq]
  simp only [x_drop, x_tbm, x_cons, x_nil, x_call, x_varS, x_var0, List.append_nil]
  refine ⟨ty_lst hl, w, sign, es, np, rfl, hs, hw, x, ne, ?_⟩
  cases np with
  | none => exact give _ _ hnp
  | some D =>
    obtain ⟨lD, h1, _, _, _, h5⟩ := hnp
    refine ⟨lD, h1, ?_⟩
    cases e : numOf (tl D) with
    | none =>
      rw [e] at h5
      exact fun d H' hd s => h5 d H' hd (s0.trans s)
    | some tb =>
      rw [e] at h5
      exact give _ _ h5
theorem pure_rterms (vs : List V) (H : Hp) (Q : VK) (E : XK) (h : spRTerms C BN vs H Q E) : t_rterms P0 K mg C Z D BN PC VA BP f_place E { nx := fun _ H' => Q .non H', rt := Q } (start ["text", "dimension", "terms", "sign", "words", "word"] vs) H := by
  obtain ⟨a, sign, es, np, rfl, hs, ht, la, x, ne, hnp⟩ := h
  show t_rterms P0 K mg C Z D BN PC VA BP f_place E _ [some (.str a), some (.int es.length), none, none, none, none] H
  unfold t_rterms
  rw [x_seq]
  simp only [x_if, x_test, x_B, x_op, x_un, x_varS, x_var0, x_c, x_I0, x_I, x_U, x_bl, x_ret, x_next, x_eqS, x_neS, x_m0, x_m1, x_isStr, x_SM, x_addT, x_slS, x_lenS, x_strI, x_mulS, x_startT, x_findT, x_preT, x_lstT, x_ascT, x_digT, x_jn, x_js0, x_js1, x_isS, x_fmt, x_fmtS, x_divW, x_truK, x_truS, x_raiseT, x_asg, x_name, x_set0, x_setS, x_drop, x_cb, x_cons, x_nil, x_int1, x_abs1, x_max2, x_gcd, x_gsub, x_sl, x_part, x_nopart, x_int, x_call, x_lst, x_tup, x_not, x_and, x_or, x_andV, x_orV, x_notV, x_ifE, x_eqI, x_neI, x_eqB, x_neB, x_tbm, x_never, x_make, x_meth, x_isII, x_isIC, x_bool1, decide_eq_true_eq, Bool.false_eq_true, if_false, if_true, List.append_nil, List.nil_append, List.cons_append]
  refine ⟨by decide, fun l hl => ?_⟩
  have ys0 : np.toList ++ wordsS es ≠ [] := by
    intro h
    exact ne (List.append_eq_nil_iff.mp h).2
  have sg : ∀ y ∈ np.toList ++ wordsS es, (∃ c r, tl y = c :: r ∧ c ≠ 45) ∧ 32 ∉ tl y ∧ y ≠ "+" ∧ y ≠ "-" := by
    intro y hy
    rcases List.mem_append.mp hy with hy | hy
    · cases np with
      | none => cases hy
      | some D =>
        obtain rfl : y = D := by simpa using hy
        obtain ⟨_, ⟨c, r, hc, h1, h2⟩, h32, h45, h43, _⟩ := hnp
        exact ⟨⟨c, r, hc, by omega⟩, h32, fun e => h43 (by rw [e]; decide +kernel), fun e => h45 (by rw [e]; decide +kernel)⟩
    · have h48 := words_signs x y hy
      refine ⟨words_first x y hy, fun h => ?_, fun e => ?_, fun e => ?_⟩
      · exact absurd (h48 _ h) (by decide)
      · rw [e] at h48
        exact absurd (h48 43 (by decide +kernel)) (by decide)
      · rw [e] at h48
        exact absurd (h48 45 (by decide +kernel)) (by decide)
  obtain ⟨sn, sb⟩ := term_sign hs ys0 (fun y hy => (sg y hy).1) ht
  rw [x_seq]
  suffices hh : tSeq (tAsg (tLst tNil) (gName 4)) (t_rterms_3 P0 K mg C Z D BN PC VA BP f_place E) { nx := fun _ H' => Q .non H', rt := Q } [some (.str a), some (.int es.length), some (.ref l), some (.int sign), none, none] (upd H l (.lst [])) by
    simp only [x_asg, x_if, x_B, x_if, x_test, x_B, x_op, x_un, x_varS, x_var0, x_c, x_I0, x_I, x_U, x_bl, x_ret, x_next, x_eqS, x_neS, x_m0, x_m1, x_isStr, x_SM, x_addT, x_slS, x_lenS, x_strI, x_mulS, x_startT, x_findT, x_preT, x_lstT, x_ascT, x_digT, x_jn, x_js0, x_js1, x_isS, x_fmt, x_fmtS, x_divW, x_truK, x_truS, x_raiseT, x_asg, x_name, x_set0, x_setS, x_drop, x_cb, x_cons, x_nil, x_int1, x_abs1, x_max2, x_gcd, x_gsub, x_sl, x_part, x_nopart, x_int, x_call, x_lst, x_tup, x_not, x_and, x_or, x_andV, x_orV, x_notV, x_ifE, x_eqI, x_neI, x_eqB, x_neB, x_tbm, x_never, x_make, x_meth, x_isII, x_isIC, x_bool1, decide_eq_true_eq, Bool.false_eq_true, if_false, if_true, List.append_nil, List.nil_append, List.cons_append, startswith_minus, sn]
    rcases hs with rfl | rfl
    · rw [if_neg (by decide)]
      exact hh
    · rw [if_pos rfl]
      exact hh
  have nl : ∀ c o, H c = some o → (upd H l (.lst [])) c = some o := Same.new hl
  have el : (upd H l (.lst [])) l = some (.lst []) := upd_same
  generalize upd H l (.lst []) = H1 at nl el ⊢
  rw [x_seq]
  simp only [x_if, x_test, x_B, x_op, x_un, x_varS, x_var0, x_c, x_I0, x_I, x_U, x_bl, x_ret, x_next, x_eqS, x_neS, x_m0, x_m1, x_isStr, x_SM, x_addT, x_slS, x_lenS, x_strI, x_mulS, x_startT, x_findT, x_preT, x_lstT, x_ascT, x_digT, x_jn, x_js0, x_js1, x_isS, x_fmt, x_fmtS, x_divW, x_truK, x_truS, x_raiseT, x_asg, x_name, x_set0, x_setS, x_drop, x_cb, x_cons, x_nil, x_int1, x_abs1, x_max2, x_gcd, x_gsub, x_sl, x_part, x_nopart, x_int, x_call, x_lst, x_tup, x_not, x_and, x_or, x_andV, x_orV, x_notV, x_ifE, x_eqI, x_neI, x_eqB, x_neB, x_tbm, x_never, x_make, x_meth, x_isII, x_isIC, x_bool1, decide_eq_true_eq, Bool.false_eq_true, if_false, if_true, List.append_nil, List.nil_append, List.cons_append]
  refine ⟨by decide, fun w hw => ?_⟩
  have nw : H w = none := by
    cases e : H w with
    | none => rfl
    | some o =>
      have := nl _ _ e
      rw [hw] at this
      cases this
  have nwl : w ≠ l := fun e => by rw [e, el] at hw; cases hw
  have ew : (upd H1 w (.lst [])) w = some (.lst []) := upd_same
  have el2 : (upd H1 w (.lst [])) l = some (.lst []) := Same.new hw _ _ el
  have s2 : Same H (upd H1 w (.lst [])) := Same.new' nl hw
  generalize upd H1 w (.lst []) = H2 at ew el2 s2 ⊢
  show t_rterms_3 P0 K mg C Z D BN PC VA BP f_place E _ _ _
  unfold t_rterms_3
  rw [x_seq, x_forL]
  have hz : (Txt.removeprefix a "-").length + 2 ≤ sizeLine := by
    have : (Txt.removeprefix a "-").length ≤ a.length := by
      rw [tl_len, removeprefix_minus, tl_len a]
      exact body_len _
    exact Nat.le_trans (show _ ≤ 30002 by omega) (by decide)
  have hsp : Txt.split (Txt.removeprefix a "-") " " = np.toList ++ wordsS es := split_words (by rw [removeprefix_minus]; exact sb) ys0 (fun y hy => (sg y hy).2.1)
  have lys : ((np.toList ++ wordsS es).map V.str).length ≤ 4 := by
    rw [List.length_map, List.length_append]
    have h1 : np.toList.length ≤ 1 := by cases np <;> simp
    have h2 : (wordsS es).length ≤ 3 := by
      unfold wordsS
      rw [List.length_map]
      exact Nat.le_trans (pairs_le es 0) x.three
    omega
  simp only [x_if, x_test, x_B, x_op, x_un, x_varS, x_var0, x_c, x_I0, x_I, x_U, x_bl, x_ret, x_next, x_eqS, x_neS, x_m0, x_m1, x_isStr, x_SM, x_addT, x_slS, x_lenS, x_strI, x_mulS, x_startT, x_findT, x_preT, x_lstT, x_ascT, x_digT, x_jn, x_js0, x_js1, x_isS, x_fmt, x_fmtS, x_divW, x_truK, x_truS, x_raiseT, x_asg, x_name, x_set0, x_setS, x_drop, x_cb, x_cons, x_nil, x_int1, x_abs1, x_max2, x_gcd, x_gsub, x_sl, x_part, x_nopart, x_int, x_call, x_lst, x_tup, x_not, x_and, x_or, x_andV, x_orV, x_notV, x_ifE, x_eqI, x_neI, x_eqB, x_neB, x_tbm, x_never, x_make, x_meth, x_isII, x_isIC, x_bool1, decide_eq_true_eq, Bool.false_eq_true, if_false, if_true, List.append_nil, List.nil_append, List.cons_append, x_splS, hsp]
  refine ⟨Nat.le_trans la (by decide), hz, fun p hp => ?_⟩
  have nwp : w ≠ p := fun e => by rw [e, hp] at ew; cases ew
  have nlp : l ≠ p := fun e => by rw [e, hp] at el2; cases el2
  have ep : (upd H2 p (.lst ((np.toList ++ wordsS es).map V.str))) p = some (.lst ((np.toList ++ wordsS es).map V.str)) := upd_same
  have ew3 := Same.new (o := .lst ((np.toList ++ wordsS es).map V.str)) hp _ _ ew
  have el3 := Same.new (o := .lst ((np.toList ++ wordsS es).map V.str)) hp _ _ el2
  have s3 : Same H (upd H2 p (.lst ((np.toList ++ wordsS es).map V.str))) := Same.new' s2 hp
  generalize upd H2 p (.lst ((np.toList ++ wordsS es).map V.str)) = H3 at ep ew3 el3 s3 ⊢
  refine for_lstV (a := p) (xs := (np.toList ++ wordsS es).map V.str) (fun Q => by simp only [x_seq, x_if, x_test, x_B, x_op, x_un, x_varS, x_var0, x_c, x_I0, x_I, x_U, x_bl, x_ret, x_next, x_eqS, x_neS, x_m0, x_m1, x_isStr, x_SM, x_addT, x_slS, x_lenS, x_strI, x_mulS, x_startT, x_findT, x_preT, x_lstT, x_ascT, x_digT, x_jn, x_js0, x_js1, x_isS, x_fmt, x_fmtS, x_divW, x_truK, x_truS, x_raiseT, x_asg, x_name, x_set0, x_setS, x_drop, x_cb, x_cons, x_nil, x_int1, x_abs1, x_max2, x_gcd, x_gsub, x_sl, x_part, x_nopart, x_int, x_call, x_lst, x_tup, x_not, x_and, x_or, x_andV, x_orV, x_notV, x_ifE, x_eqI, x_neI, x_eqB, x_neB, x_tbm, x_never, x_make, x_meth, x_isII, x_isIC, x_bool1, decide_eq_true_eq, Bool.false_eq_true, if_false, if_true, List.append_nil, List.nil_append, List.cons_append]) (fun i σ H' => (∃ X, σ = [some (.str a), some (.int es.length), some (.ref l), some (.int sign), some (.ref w), X]) ∧ Same H H' ∧ H' p = some (.lst ((np.toList ++ wordsS es).map V.str)) ∧ H' l = some (.lst []) ∧ H' w = some (.lst (((np.toList ++ wordsS es).map V.str).take i))) ⟨⟨none, rfl⟩, s3, ep, el3, ew3⟩ (fun i σ H' _ s => s.2.2.1) (fun i y σ H' hy s => ?_) fun σ H' s => ?_
  · obtain ⟨⟨X, rfl⟩, s, ip, il, iw⟩ := s
    obtain ⟨z, hz, rfl⟩ : ∃ z, z ∈ np.toList ++ wordsS es ∧ y = .str z := by
      obtain ⟨z, h1, h2⟩ := List.mem_map.mp (List.mem_of_getElem? hy)
      exact ⟨z, h1, h2.symm⟩
    obtain ⟨_, _, z1, z2⟩ := sg z hz
    simp only [x_seq, x_if, x_test, x_B, x_op, x_un, x_varS, x_var0, x_c, x_I0, x_I, x_U, x_bl, x_ret, x_next, x_eqS, x_neS, x_m0, x_m1, x_isStr, x_SM, x_addT, x_slS, x_lenS, x_strI, x_mulS, x_startT, x_findT, x_preT, x_lstT, x_ascT, x_digT, x_jn, x_js0, x_js1, x_isS, x_fmt, x_fmtS, x_divW, x_truK, x_truS, x_raiseT, x_asg, x_name, x_set0, x_setS, x_drop, x_cb, x_cons, x_nil, x_int1, x_abs1, x_max2, x_gcd, x_gsub, x_sl, x_part, x_nopart, x_int, x_call, x_lst, x_tup, x_not, x_and, x_or, x_andV, x_orV, x_notV, x_ifE, x_eqI, x_neI, x_eqB, x_neB, x_tbm, x_never, x_make, x_meth, x_isII, x_isIC, x_bool1, decide_eq_true_eq, Bool.false_eq_true, if_false, if_true, List.append_nil, List.nil_append, List.cons_append, decide_eq_false z1, decide_eq_false z2]
    refine ⟨ty_lst iw, ?_⟩
    rw [x_append iw (by rw [List.length_take]; exact Nat.lt_of_lt_of_le (show _ < 5 by omega) (by decide))]
    refine ⟨⟨_, rfl⟩, fun c o hc => ?_, ?_, ?_, ?_⟩
    · rw [upd_ne (ne_of_none hc nw)]
      exact s _ _ hc
    · rw [upd_ne (Ne.symm nwp)]
      exact ip
    · rw [upd_ne (Ne.symm nwl)]
      exact il
    · rw [upd_same, List.take_succ, hy]
      rfl
  · obtain ⟨⟨X, rfl⟩, s, ip, il, iw⟩ := s
    rw [List.take_length] at iw
    exact rest_terms hs iw il hl s x ne hnp
end
end SpX

set_option Elab.async false
set_option linter.all false
set_option maxRecDepth 100000
set_option maxHeartbeats 2000000
/-! An except clause over several classes whose suite raises out of the try. -/
namespace SpX
open PySem PySem.Spec PyProof.Rows L2 HotX L2H
/-- the clause's test: it looks at the exception, makes at most new objects, and tells b -/
def Tests (X : Cx) (te : Expr) (m : Value → Option Bool) : Prop := ∀ (a : Addr) (oe : Obj) (pn pins : List (Addr × Obj)) (σ : L2.St) (H : Hp) (s : Shared) (b : Bool) (Q : Bool → Shared → Prop) (E : Value → Shared → Prop), Inv (X.suite a ((a, oe) :: pn)) pins σ H s → s.heap.get? a = some oe →
  m oe.cls = some b → (∀ h', (∀ q o, s.heap.get? q = some o → h'.get? q = some o) → Q b { s with heap := h' }) → wpAny (model X.prog X.w) (X.A.mark (some (.ref a))) (eval te X.env) (fun c s1 => wpAny (model X.prog X.w) (X.A.mark (some (.ref a))) (excMatches (.ref a) c) Q E s1) E s
theorem tests_name {X : Cx} {x : Str} {c : Value} {np : Pos} (hc : Names X x c) {a : Addr} {oe : Obj} {pn pins : List (Addr × Obj)} {σ : L2.St} {H : Hp} {s : Shared} (S : Inv (X.suite a ((a, oe) :: pn)) pins σ H s) {Q E : Value → Shared → Prop} (q : Q c s) : wpAny (model X.prog X.w) (X.A.mark (some (.ref a))) (eval (.Name x np) X.env) Q E s := by
  rcases hc with ⟨g1, g2, g3 | ⟨g3, g4, g5⟩⟩
  · exact ld_glob (X := X.suite a ((a, oe) :: pn)) S g1 g3 q g2
  · exact ld_blt (X := X.suite a ((a, oe) :: pn)) S g1 g3 g4 q g5 g2
theorem tests_tup3 {X : Cx} {x1 x2 x3 : Str} {c1 c2 c3 : Value} {p1 p2 p3 tpos : Pos} {kk : Nat} (n1 : Names X x1 c1) (n2 : Names X x2 c2) (n3 : Names X x3 c3) : Tests X (.Tuple [.Name x1 p1, .Name x2 p2, .Name x3 p3] kk tpos) fun cls => PySem.W.exmAny X.K cls [c1, c2, c3] := by
  intro a oe pn pins σ H s b Q E S he hx q
  have LT : PySem.W.Looks (model X.prog X.w) s.heap (typeOf (.ref a)) oe.cls := fun A Q E s k q => wpAny_typeOf_ref (k _ _ he) q
  refine wpAny_Tuple ?_
  refine wpAny_items_cons (tests_name n1 S ?_)
  refine wpAny_items_cons (tests_name n2 S ?_)
  refine wpAny_items_cons (tests_name n3 S ?_)
  have kp : ∀ b u, s.heap.get? b = some u → (s.heap.push { cls := .type "tuple", data := .seq [c1, c2, c3].toArray }).get? b = some u := fun b u e => Heap.get?_push_of_some _ e
  refine wpAny_items_nil ⟨by size_fits, ?_⟩
  exact (PySem.W.exm_tup3 (S.kIn.keeps kp) (LT.keeps kp) (Heap.get?_push_size s.heap rfl) hx).here (q _ kp)
theorem flyingZ_keeps {h h' B : Heap} {l : List Env} {a : Addr} {Z : Obj → Prop} (R : HandSPX.FlyingZ B l a Z h) (k : ∀ b o, h.get? b = some o → h'.get? b = some o) : HandSPX.FlyingZ B l a Z h' := by
  obtain ⟨f1, f2, f3, oe, vs, T, oT, ts, he, hz, hd, h1, hn, hne, hT, hdT, h3⟩ := R
  exact ⟨fun b o q => k b o (f1 b o q), f2, f3.of_keeps fun b o q _ => ⟨o, k b o q, rfl⟩, oe, vs, T, oT, ts, k _ _ he, hz, hd, h1, hn, hne, k _ _ hT, hdT, h3⟩
/-- what the clause wishes of an exception of the body -/
def wTest (m : Value → Option Bool) (ts : Addr → Value → Option Addr → TS) (Wout : WX) (D : Ends) : WX := fun cls d σ H => ∃ b, m cls = some b ∧ (b = true → ∀ a, H a = none → ts a cls d D σ H) ∧ (b = false → Wout cls d σ H)
def wPassT (m : Value → Option Bool) (Wout : WX) : WX := fun cls d σ H => m cls = some false ∧ Wout cls d σ H
section
variable {X : Cx} {te : Expr} {m : Value → Option Bool} {body suite : List Stmt} {b₀ : Stmt} {pos pos' : Pos} {tb : WX → TS} {ts : Addr → Value → Option Addr → TS} {Wout : WX} {pins : List (Addr × Obj)}
/-- an instance with fields is no frame's dict -/
theorem no_frame {B h : Heap} {l : List Env} {a : Addr} {Z : Obj → Prop} (x : HandSPX.FlyingZ B l a Z h) : a ∉ frs l := fun inn => by
  obtain ⟨ob, ws, hob, _, hdata⟩ := x.there
  obtain ⟨_, ob2, hob2, bad⟩ := x.2.2.1.mem inn
  obtain rfl : ob = ob2 := Option.some.inj (hob.symm.trans hob2)
  exact bad ws hdata
/-- the frames' dicts of X, told from its stack -/
theorem apart_of (hf : X.env.frame = some X.env.locals) {a : Addr} (n : a ∉ frs (X.env :: X.outer)) : a ≠ X.env.locals ∧ a ∉ X.fs := by
  constructor
  · rintro rfl
    exact n (List.mem_filterMap.mpr ⟨X.env, by simp, hf⟩)
  · intro inn
    obtain ⟨en, h1, h2⟩ := List.mem_filterMap.mp inn
    exact n (List.mem_filterMap.mpr ⟨en, by simp [h1], h2⟩)
/-- no clause left: the exception goes on -/
theorem goes_on (hs : X.stack = X.env :: X.outer) (hf : X.env.frame = some X.env.locals) (tk : L2.Takes X Wout) {D : Ends} {a : Addr} {B g : Heap} {s0 s1 : Shared} {σ1 : L2.St} {H1 : Hp} {cls : Value} {d : Option Addr} (J : Inv X pins σ1 H1 s0) (nb : ∀ b o, s0.heap.get? b = some o → b ∉ frs X.stack → B.get? b = some o)
    (ug : s0.heap.UpToSlots g) (fl : HandSPX.FlyingZ B (X.env :: X.outer) a (Zc cls d) g) (free : H1 a = none) (eos : s1.os = s0.os) (eg : AllBare s1.gens) (q : Wout cls d σ1 H1) : wpAny (model X.prog X.w) X.A (handleBy (.ref a) X.env []) (SP X pins D) X.xe { s1 with heap := g } := by
  have out : wpAny (model X.prog X.w) X.A (setFlight (.ref a) X.env.frame) (fun _ s2 => wpAny (model X.prog X.w) X.A (throw (.ref a) : Sem Flow) (SP X pins D) X.xe s2) X.xe { s1 with heap := g } := by
    rw [hf]
    exact HandSPX.setFlight_upZ fl fun g2 held u2 => wpAny_throw (tk _ _ ⟨a, B, s0, pins, σ1, H1, cls, d, rfl, J, nb, ug.trans u2, .inr (.inr (by rw [hs]; exact held)), free, eos, eg, q⟩)
  obtain ⟨_, _, _, ob, ws, T, _, _, hob, _, hdata, first, _⟩ := fl
  refine wpAny_handleBy_nil ?_
  unfold PySem.passOn
  refine wpAny_bind (wpAny_field hob hdata first ?_)
  rw [if_neg (by simp : ¬ ((Value.ref T == Value.none) = true))]
  first
    | exact wpAny_bind (wpAny_pure (wpAny_bind out))
    | exact wpAny_bind out
/-- what an except suite leaves is what the try leaves -/
theorem suite_leaves (ok : X.Ok) {q : Addr × Obj} {a : Addr} {D : Ends} {f : Flow} {s : Shared} (h : SP (suiteX X a (q :: (X.pn ++ pins))) [] D f s) : SP X pins D f s := by
  cases f
  case ret u =>
    obtain ⟨v, σ1, H1, S, r, k⟩ := h
    exact ⟨v, σ1, H1, unsuiteX S ok, r, k⟩
  all_goals
    obtain ⟨σ1, H1, S, k⟩ := h
    exact ⟨σ1, H1, unsuiteX S ok, k⟩
theorem suite_takes (ok : X.Ok) (tk : L2.Takes X Wout) {q : Addr × Obj} {a : Addr} : L2.Takes (suiteX X a (q :: (X.pn ++ pins))) Wout := by
  rintro u s1 ⟨a1, B1, s0, pn1, σ1, H1, cls, d, eu, J, rest⟩
  exact tk u s1 ⟨a1, B1, s0, pins, σ1, H1, cls, d, eu, unsuiteX J ok, rest⟩
/-- the exception stands before the clause: the test, then the suite or the way on -/
theorem clause_tests (hs : X.stack = X.env :: X.outer) (hf : X.env.frame = some X.env.locals) (hc : Tests X te m) (tk : L2.Takes X Wout) {Z : Obj → Prop} {D : Ends} {a : Addr} {B g : Heap} {s0 s1 : Shared} {σ1 : L2.St} {H1 : Hp} {cls : Value} {d : Option Addr} {b : Bool} (hz : ∀ o, Z o → Zc cls d o)
    (J : Inv X pins σ1 H1 s0) (nb : ∀ b o, s0.heap.get? b = some o → b ∉ frs X.stack → B.get? b = some o) (ug : s0.heap.UpToSlots g) (fl : HandSPX.FlyingZ B (X.env :: X.outer) a Z g) (free : H1 a = none) (eos : s1.os = s0.os) (eg : AllBare s1.gens) (hm : m cls = some b) (hno : b = false → Wout cls d σ1 H1)
    (hyes : b = true → ∀ g2, s0.heap.UpToSlots g2 → HandSPX.FlyingZ B (X.env :: X.outer) a Z g2 → wpAny (model X.prog X.w) (X.A.mark (some (.ref a))) (execs (b₀ :: suite) X.env) (SP X pins D) (notedBy (model X.prog X.w) (X.A.mark (some (.ref a))) X.env (cameBackBy (model X.prog X.w) X.A X.env X.xe)) { s1 with heap := g2 }) :
    wpAny (model X.prog X.w) X.A (handleBy (.ref a) X.env [.ExceptHandler (some te) none (b₀ :: suite) pos']) (SP X pins D) X.xe { s1 with heap := g } := by
  have J1 : Inv X pins σ1 H1 { s1 with heap := g } := J.landed nb fl.1 ug eos eg
  obtain ⟨ob, ws, hob, zob, hdata⟩ := fl.there
  obtain ⟨nL, nF⟩ := apart_of hf (no_frame fl)
  refine wpAny_handleBy_cons (codeAny_handlers_test ?_) (by rintro ⟨⟩)
  refine hc a ob _ _ σ1 H1 _ b _ _ (J1.suite hob hdata free nL nF) hob (by rw [(hz _ zob).1]; exact hm) fun g1 kp => ?_
  have u1 : s0.heap.UpToSlots g1 := ug.trans (Heap.UpToSlots.of_keeps kp)
  have fl1 := flyingZ_keeps fl kp
  cases b
  · show wpAny _ X.A (handleBy (.ref a) X.env []) _ _ _
    exact goes_on hs hf tk J nb u1 (flyingZ_imp hz fl1) free eos eg (hno rfl)
  · exact codeAny_handlers_suite (HandSPX.lands_againZ fl1 fun g2 fl2 u2 => hyes rfl g2 (u1.trans u2) fl2)
/-- THE RULE: try: body / except (C1, .., Cn): a suite that may raise out of the try -/
theorem ps_try_testX (hs : X.stack = X.env :: X.outer) (hf : X.env.frame = some X.env.locals) (hc : Tests X te m) (hpa : ∀ hd : Option Value, PassesOwnAt (model X.prog X.w) (X.A.mark hd) X.A X.env X.xe) (tk : L2.Takes X Wout)
    (hb : ∀ (W : WX) (pn : List (Addr × Obj)) (xe : Value → Shared → Prop), L2N.Takes (X.tr pn xe) W → L2.Takes (X.tr pn xe) (wPassT m Wout) → PassesOwn (model X.prog X.w) X.A X.env xe → PSs (X.tr pn xe) body (tb W))
    (hsu : ∀ (a : Addr) (ob : Obj) (cls : Value) (d : Option Addr) (pn : List (Addr × Obj)), L2N.Zn cls d ob → (∃ ws, ob.data = .fields ws) → L2.Takes (suiteX X a ((a, ob) :: pn)) Wout → HotC (suiteX X a ((a, ob) :: pn)) → PSs (suiteX X a ((a, ob) :: pn)) (b₀ :: suite) (ts a cls d)) :
    PS X (.Try body [.ExceptHandler (some te) none (b₀ :: suite) pos'] [] [] pos) (fun D σ H => tb (wTest m ts Wout D) D σ H) := by
  refine ⟨fun pins s σ H D I h => wpAny_Try_except ?_⟩
  have ok := I.ok
  have hfr : X.A.frames = some (X.env :: X.outer) := ok.frames.trans (congrArg some hs)
  let after : Value → Shared → Prop := fun e t1 => wpAny (model X.prog X.w) X.A (noteFrame e X.env) (fun _ t2 => wpAny (model X.prog X.w) X.A (setFlight e none) (fun _ t3 => wpAny (model X.prog X.w) X.A (handleBy e X.env [.ExceptHandler (some te) none (b₀ :: suite) pos']) (SP X pins D) X.xe t3) X.xe t2) X.xe t1
  have hot : L2N.Takes (X.tr (X.pn ++ pins) after) (wTest m ts Wout D) := by
    rintro u s1 ⟨a, B, s0, _, σ1, H1, cls, d, rfl, J0, nb, up, sky, free, eos, eg, b, hm, hyes, hno⟩
    have J := J0.ofTry ok
    refine L2N.Sky.land L2N.Zn.steady hfr hf (by rw [← hs]; exact sky) fun g fl ug => ?_
    refine clause_tests hs hf hc tk (fun o z => z.zc) J nb (up.trans ug) fl free eos eg hm hno fun eb g2 u2 fl2 => ?_
    obtain ⟨ob, ws, hob, zob, hdata⟩ := fl2.there
    obtain ⟨nL, nF⟩ := apart_of hf (no_frame fl2)
    have J2 : Inv X pins σ1 H1 { s1 with heap := g2 } := J.landed nb fl2.1 u2 eos eg
    exact wpAny_mono ((hsu a ob cls d (X.pn ++ pins) zob ⟨_, hdata⟩ (suite_takes ok tk) ⟨(a, ob), ⟨rfl, ws, hdata, zob.2.2 ws hdata⟩, List.mem_cons_self⟩).run [] _ _ H1 _ (suiteX_of (J2.suite hob hdata free nL nF)) (hyes eb a free)) (fun f s3 left => suite_leaves ok left) fun e s3 z => hpa _ e s3 z
  have cold : L2.Takes (X.tr (X.pn ++ pins) after) (wPassT m Wout) := by
    rintro u s1 ⟨a, B, s0, _, σ1, H1, cls, d, rfl, J0, nb, up, sky, free, eos, eg, hm, hno⟩
    have J := J0.ofTry ok
    refine L2.Sky.land Zc.steady hfr hf (by rw [← hs]; exact sky) fun g fl ug => ?_
    exact clause_tests (b := false) hs hf hc tk (fun _ z => z) J nb (up.trans ug) fl free eos eg hm (fun _ => hno) (by rintro ⟨⟩)
  refine wpAny_mono ((hb (wTest m ts Wout D) (X.pn ++ pins) after hot cold PassesOwn.looking).run [] s σ H D (I.toTry _) h) (fun f s1 left => ?_) fun e s1 z => z
  cases f
  case next =>
    obtain ⟨σ1, H1, J, k⟩ := left
    exact wpAny_execs_nil ⟨σ1, H1, J.ofTry ok, k⟩
  case ret u =>
    obtain ⟨v, σ1, H1, J, r, k⟩ := left
    exact ⟨v, σ1, H1, J.ofTry ok, r, k⟩
  all_goals
    obtain ⟨σ1, H1, J, k⟩ := left
    exact ⟨σ1, H1, J.ofTry ok, k⟩
end
end SpX

set_option Elab.async false
set_option linter.all false
set_option maxRecDepth 100000
set_option maxHeartbeats 2000000
/-! An own exception whose __init__ asks super(), made while another exception is handled. -/
namespace SpX
open PySem PySem.Spec PyProof.Rows L2 HotX L2H
def cxSupH (CX : CXT) (P : Program) (w : World) (K : PySem.W.Frag) (mg : Str → Option Value) (base : Heap) (N : List Str) (qual : Str) (scope : Scope) (f : Addr) (cd : Value) (cc : Addr) (A : Around) (outer : List Env) (s : Shared) (H : Hp) (E : XK) (p : Addr × Obj) : Cx :=
  { cxSup CX P w K mg base N qual scope f cd cc A outer s H E with calm := false, pn := [p] }
section
variable {CX : CXT} {P : Program} {w : World} {K : PySem.W.Frag} {mg : Str → Option Value} {base : Heap} {N ps : List Str} {qual : Str} {scope : Scope} {f cc : Addr} {cd : Value} {A : Around} {outer : List Env} {s : Shared} {H : Hp} {E : XK} {us : List Value} {vs : List V}
theorem inv_supH {h1 : Heap} {tk : Nat} {cl : Value} {cld : Option Addr} {cv : Option Value} {csl : Array (Option Value)} (S : SupScope N ps scope) {p : Addr × Obj} (hpin : PinOk outer H s p) (e0 : Env0 P w K mg base A outer s H) (hl : vs.length = ps.length) (r : Vals vs us)
    (hcell : K.lookup cc = some ⟨cl, cld, .cell cv, csl⟩) (ns : h1.Ns s.heap.objs.size (fun x => (ps.zip us).reverse.lookup x)) (hk : ∀ b o, s.heap.get? b = some o → h1.get? b = some o) :
    Inv (cxSupH CX P w K mg base N qual scope f cd cc A outer s H E p) [] (L2.start N vs) H { s with heap := h1, toks := tk } := by
  have hpl : ps.length ≤ N.length := by have := congrArg List.length S.pre; rw [List.length_take] at this; omega
  have noA : ∀ b : Addr, b ∉ (cxSupH CX P w K mg base N qual scope f cd cc A outer s H E p).ex := fun b z => absurd (show b ∈ ([] : List Addr) from z) (by simp)
  have one : ∀ y c, List.lookup y [(("__class__" : Str), cc)] = some c → y = "__class__" ∧ c = cc := fun y c h => by
    rw [List.lookup_cons] at h
    cases e : y == ("__class__" : Str) with
    | true =>
      rw [e] at h
      exact ⟨beq_iff_eq.mp e, (Option.some.inj h).symm⟩
    | false =>
      rw [e] at h
      cases h
  have cb := e0.mod.kin _ _ hcell
  refine ⟨⟨e0.mod, S.kind, rfl, rfl, Nat.le_refl _, fun y z c h1 h2 => ?_, fun y hy => ?_, fun y c hf h => ?_, (fun z => nomatch (show false = true from z)), Around.frames_deeper e0.frames, .inr ⟨rfl, rfl⟩, fun b z => absurd z (noA b), e0.bs, e0.bsz, fun b _ _ => noA b, fun b z => absurd z (noA b), e0.funs, e0.frf⟩,
    rfl, e0.bare, Un.kept hk, ⟨_, ns, fun i y v h1 h2 h3 => ?_⟩, fun y c h => ?_, e0.hok.fresh (Nat.le_refl _), fun y c h => ?_, fun r hr => ?_, e0.hok.kept hk, ?_⟩
  · rw [(one y c h1).1, (one z c h2).1]
  · have hy : scope.names.lookup y = some .cell ∨ scope.names.lookup y = some .free := hy
    rcases hy with hy | hy
    · exact absurd rfl (S.nocell _ (PySem.mem_of_lookup hy))
    · have := S.free _ (PySem.mem_of_lookup hy) rfl
      exact ⟨cc, by rw [show y = "__class__" from this]; rfl⟩
  · have hf : (y != ("__class__" : Str)) = true := hf
    rw [(one y c h).1] at hf
    exact absurd hf (by simp)
  · have hi : i < vs.length := by
      unfold L2.start at h2
      by_cases hi : i < vs.length
      · exact hi
      · rw [List.getElem?_append_right (by simpa using hi)] at h2
        rw [List.getElem?_replicate] at h2
        split at h2 <;> cases h2
    have ha : vs[i]? = some v := by
      unfold L2.start at h2
      rw [List.getElem?_append_left (by simpa using hi), List.getElem?_map] at h2
      cases e : vs[i]? with
      | none => rw [e] at h2; cases h2
      | some a => rw [e] at h2; cases h2; rfl
    obtain ⟨u, hu, rv⟩ := r.get ha
    have hp : ps[i]? = some y := by
      rw [← S.pre, List.getElem?_take_of_lt (by omega)]; exact h1
    have ndP : ps.Nodup := by rw [← S.pre]; exact S.nd.sublist (List.take_sublist _ _)
    exact ⟨u, rv, .inl ⟨S.par y (List.mem_of_getElem? hp), rl_get ndP hp hu⟩⟩
  · rw [(one y c h).2]
    exact ⟨cv, _, hk _ _ (e0.bs _ _ cb).1, rfl⟩
  · rw [(one y c h).2]
    exact (e0.bs _ _ cb).2
  · obtain rfl : r = p := by simpa using (show r ∈ [p] ++ ([] : List (Addr × Obj)) from hr)
    exact ⟨hk _ _ hpin.get, hpin.free, fun e => absurd (Heap.lt_size hpin.get) (by rw [e]; exact Nat.lt_irrefl _), hpin.nofs, hpin.nocell⟩
  · unfold L2.start
    show _ = N.length
    rw [List.length_append, List.length_map, List.length_replicate]
    omega
end

/-- THE RULE, hot -/
theorem fn_supH {CX : CXT} {P : Program} {w : World} {K : PySem.W.Frag} {mg : Str → Option Value} {base : Heap} {k : Nat} {f cc cda D : Addr} {name qual : Str} {params : Arguments} {body rest : List Stmt} {scope : Scope} {kV doc pm ct oc : Value} {an od : Option Addr}
    {osl : Array (Option Value)} {N ps : List Str} {sp : Sp} {ar : Arg} {p0 p1 p2 p3 p4 p5 : Pos} {x : Str} {j : Nat}
    (lk : K.lookup f = some ⟨oc, od, .func (PySem.W.ksFn name qual params body scope .none kV doc pm an (.ref cda) ct cc), osl⟩) (hcd : PySem.W.codeIn K (.ref cda) qual = true) (S : SupScope N ps scope) (F : SupF P K cda cc D)
    (hb : body = .Expr (.Call (.Attribute (.Call (.Name "super" p0) [] [] p1) "__init__" p2) [.Constant (.str x) j p3] [] p4) p5 :: rest) (hp : (params.posonlyargs ++ params.args).head? = some ar) (hN : N[0]? = some ar.arg) (hpa : ar.arg ∈ ps)
    (len : ∀ vs H Q E, sp vs H Q E → vs.length = ps.length)
    (hev : ∀ L : Addr, ∃ pl : Sem Bool, eval (.Call (.Attribute (.Call (.Name "super" p0) [] [] p1) "__init__" p2) [.Constant (.str x) j p3] [] p4) (PySem.W.ksEnv qual scope L f (.ref cda) cc) = (do
      let ov ← attributeBase (.Call (.Name "super" p0) [] [] p1) "__init__" (PySem.W.ksEnv qual scope L f (.ref cda) cc) (eval (.Call (.Name "super" p0) [] [] p1) (PySem.W.ksEnv qual scope L f (.ref cda) cc))
      standAt p2.atName
      let (g, first) ← holding [ov] (getMethod ov "__init__" pl)
      callWith p4 g first (backTo p4 (starEach [.Constant (.str x) j p3] (PySem.W.ksEnv qual scope L f (.ref cda) cc))) []))
    (hbody : ∀ (A : Around) (outer : List Env) (s : Shared) (H : Hp) (vs : List V) (Q : VK) (E : XK) (p : Addr × Obj), RoomH k (A.deeper (PySem.W.ksEnv qual scope s.heap.objs.size f (.ref cda) cc)) → sp vs H Q E →
      ∃ a C, vs[0]? = some (.ref a) ∧ H a = some (exo a C none) ∧ SupC P K mg C D ∧ ∃ t, PSs (cxSupH CX P w K mg base N qual scope f (.ref cda) cc A outer s H E p) rest t ∧ t { nx := fun _ H' => Q .non H', rt := Q } (L2.start N vs) H) :
    FnH P w K mg base CX (k + 1) f (PySem.W.ksFn name qual params body scope .none kV doc pm an (.ref cda) ct cc) ps sp := by
  refine ⟨len, fun A outer s H args us vs Q E p hr hot hpin e0 hbd r hsp => ?_⟩
  have hl := len _ _ _ _ hsp
  have KX : K.In s.heap := e0.mod.kin.keeps fun b o e => (e0.bs b o e).1
  have lim : s.heap.NoLimit := e0.mod.nolimit.keeps fun b o e => (e0.bs b o e).1
  obtain ⟨cl2, dcl2, sl2, hcell⟩ := F.cell
  refine PySem.ks_codeAny_call_defAt (fd := PySem.W.ksFn name qual params body scope .none kV doc pm an (.ref cda) ct cc) (body := body) hr.depth (KX _ _ lk) rfl lim (PySem.W.codeRec_of KX hcd) rfl hbd S.nocell (fun y hy => S.par _ (List.of_mem_zip hy).1) (fun h0 ns keep => ?_) S.co S.gen S.kind
  obtain ⟨a, C, hv0, ea, T, t, ht, hq⟩ := hbody A outer s H vs Q E p (hr.deeper _) hsp
  have I : Inv (cxSupH CX P w K mg base N qual scope f (.ref cda) cc A outer s H E p) [] (L2.start N vs) H { s with heap := h0, toks := s.toks + (ps.zip us).length } := inv_supH S hpin e0 hl r hcell ns keep
  subst hb
  obtain ⟨pl, hpl⟩ := hev s.heap.objs.size
  refine PySem.ks_wpAt_execs_cons (sup_row (hev := hpl) (X := cxSupH CX P w K mg base N qual scope f (.ref cda) cc A outer s H E p) rfl S.sup S.cls (S.par _ hpa) lk hp F T I hN ?_ ea (fun s' J => ?_))
  · unfold L2.start
    have hlt : 0 < vs.length := (List.getElem?_eq_some_iff.mp hv0).1
    rw [List.getElem?_append_left (by simpa using hlt), List.getElem?_map, hv0]
    rfl
  · refine wpAt_of_wpAny ?_
    refine wpAny_mono (ht.run [] s' (L2.start N vs) H _ J hq) (fun fl s2 hs => ?_) fun e s2 hs => hs
    have fin : ∀ {σ' : L2.St} {H' : Hp} {v : V} {u : Value}, Inv (cxSupH CX P w K mg base N qual scope f (.ref cda) cc A outer s H E p) [] σ' H' s2 → RelV v u → Q v H' → CE outer P w H s Q u s2 :=
      fun {σ' H' v u} J rv q => ⟨v, H', J.os, J.bare, J.base, J.hok, rv, q⟩
    cases fl with
    | ret u =>
      obtain ⟨v, σ', H', J, rv, q⟩ := hs
      exact fin J rv q
    | next =>
      obtain ⟨σ', H', J, q⟩ := hs
      exact fin (v := V.non) (u := Value.none) J rfl q
    | brk =>
      obtain ⟨_, _, _, q⟩ := hs
      exact False.elim q
    | cont =>
      obtain ⟨_, _, _, q⟩ := hs
      exact False.elim q
end SpX

set_option Elab.async false
set_option linter.all false
set_option maxRecDepth 100000
set_option maxHeartbeats 2000000
/-! An own exception with an __init__ of its own, raised where nothing is handled: its context is None. -/
namespace SpX
open PySem PySem.Spec PyProof.Rows L2 HotX L2H
/-- what lets an exception with any context through lets one without a context through -/
theorem cxN_cx {P : Program} {w : World} {outer : List Env} {H : Hp} {s s' : Shared} {E : XK} {u : Value} (h : L2N.CX P w outer H s E u s') : L2.CX P w outer H s E u s' := by
  obtain ⟨a, B, H1, cls, d, eu, fl, rest⟩ := h
  exact ⟨a, B, H1, cls, d, eu, flyingZ_imp (fun _ z => z.zc) fl, rest⟩
theorem passAtW {X : Cx} {W : WX} (tk : L2.Takes X W) (σ : L2.St) : PassesAt (L2N.CX X.prog X.w) X σ (WE W σ) := fun pins H s e s' I c => L2.passAt tk σ pins H s e s' I (cxN_cx c)
theorem passLN {X : Cx} : Passes (L2N.CX X.prog X.w) X E0 := fun pins σ H s e s' I c => by
  obtain ⟨_, _, _, _, _, _, _, _, _, _, _, _, z⟩ := c
  exact z.elim
/-- what the text says of an error's class B: over BT, beside O -/
structure Ex1 (K : PySem.W.Frag) (B BT O : Addr) : Prop where
  cz : ExcC K B
  is : PySem.W.exmOne K (.ref B) (.ref B) = some true
  bt : PySem.W.kitOne K (.ref B) (.ref BT) = some true
  ot : PySem.W.kitOne K (.ref B) (.ref O) = some false
section
variable {X : Cx} {pins : List (Addr × Obj)} {σ : L2.St}
/-- C(args) from the state behind the arguments: the object is laid, its __init__ runs, the object flies -/
theorem make_exc {CX : CXT} {C fI : Addr} {k : Nat} {fd : FuncData} {ps : List Str} {sp : Sp} {H1 : Hp} {s1 : Shared} {us : List Value} {vs : List V} {Q : XK} (T : OexC X.K C) (iC : PySem.W.findIn X.K (.ref C) "__init__" = some (some (.ref fI))) (tI : PySem.W.typeIn X.K (.ref fI) = some (.type "function"))
    (F1 : FnOk X.prog X.w X.K X.mg X.base CX k fI fd ps sp) (hr : Room (k + 1) X.A) (hb : Binds X.K fd ps []) (hx : Passes CX X (fun _ _ _ => False)) (I1 : Inv X pins σ H1 s1) (r1 : Vals vs us) (ls : us.length ≤ sizeLine)
    (q1 : ∀ a, H1 a = none → sp (V.ref a :: vs) (upd H1 a (exo a C none)) (fun v H2 => v = .non ∧ ∃ d fs, H2 a = some (exo a C (some d)) ∧ H2 d = some (exd d fs) ∧ H1 d = none ∧ Q (.ref C) (some d) (upd (del H2 a) d (.xd fs))) (fun _ _ _ => False)) :
    wpAny (model X.prog X.w) X.A (call (.ref C) us) (fun u s2 => L2N.MkP X pins σ Q u s2) X.xe s1 := by
  have bm0 := T.cls
  obtain ⟨nm, q, N, bs, bm, sn, sub, ab, col, dd, k0, k1, k2, k3, k5, hC, hbm⟩ := bm0
  obtain ⟨g0, gg, dr, tk, os⟩ := s1
  have hsz : g0.objs.size ≤ g0.objs.size + 1 := by omega
  have hn : H1 (g0.objs.size + 1) = none := I1.hok.fresh hsz
  have hq := q1 _ hn
  have keep : ∀ b u, g0.get? b = some u → ((g0.push (PySem.W.kdv_tup us)).push (PySem.HandSPX.excO C g0.objs.size)).get? b = some u := fun b u e => Heap.get?_push_of_some _ (Heap.get?_push_of_some _ e)
  have at1 : ((g0.push (PySem.W.kdv_tup us)).push (PySem.HandSPX.excO C g0.objs.size)).get? (g0.objs.size + 1) = some (PySem.HandSPX.excO C g0.objs.size) := by heap_get
  have I2 := I1.laid (t' := tk) (a := g0.objs.size + 1) (o := exo (g0.objs.size + 1) C none) keep hsz (exo_ok at1)
  have r2 : Vals (V.ref (g0.objs.size + 1) :: vs) (Value.ref (g0.objs.size + 1) :: us) := .cons rfl r1
  have hl : (Value.ref (g0.objs.size + 1) :: us ++ []).length = ps.length := by
    rw [List.append_nil, ← r2.length]
    exact F1.len _ _ _ _ hq
  have b2 := hb _ (Value.ref (g0.objs.size + 1) :: us) I2.kIn hl
  rw [List.append_nil] at b2
  refine wpAny_call (PySem.HandSPX.call_own F.excBase_ValueError (fun Y => PySem.HandSPX.refsVE_contains Y bm hbm) (I1.kIn _ _ hC) (PySem.W.looks_findIn I1.kIn iC) (fun self => PySem.W.bind_fn I1.kIn self tI) ls ?_)
  refine codeAny_mono (F1.run _ X.stack _ _ ⟨Value.ref (g0.objs.size + 1) :: us, []⟩ (Value.ref (g0.objs.size + 1) :: us) _ _ (fun _ _ _ => False) (hr.make C us []) (I2.env0.make C us []) b2 r2 hq) fun r s2 got => ?_
  match r, got with
  | .error er, got => exact hx pins σ _ _ er s2 I2 got
  | .ok .next, got => exact got.elim
  | .ok .brk, got => exact got.elim
  | .ok .cont, got => exact got.elim
  | .ok (.ret u), got =>
    obtain ⟨v, H2, os2, bare2, un2, hok2, rv, ev, d, fs, ea, ed, hd1, q2⟩ := got
    subst ev
    obtain ⟨g2, gg2, dr2, tk2, os3⟩ := s2
    obtain ⟨t0, G, J, kG, free, hoe, na⟩ := mk_end0 (d2 := dr2) (t2 := tk2) I1 hsz keep un2 hok2 os2 bare2 ea ed hd1
    have zn : L2N.Zn (.ref C) (some d) ({ cls := .ref C, dict := some d, data := .fields #[.ref t0, .none, .none, .none, .bool false, .none] } : Obj) := ⟨rfl, rfl, fun ws hw => by cases hw; rfl⟩
    exact ⟨rv, g0.objs.size + 1, _, _, ⟨G, gg2, dr2, tk2, os3⟩, _, .ref C, some d, rfl, J, kG, free, hoe, zn, rfl, rfl, na, rfl, bare2, raises_own T.exC T.tyC, q2⟩
theorem pmk_oexN {CX : CXT} {x : Str} {e : Expr} {es : List Expr} {ta : TA} {p pos : Pos} {C fI : Addr} {k : Nat} {fd : FuncData} {ps : List Str} {sp : Sp} (T : OexC X.K C) (iC : PySem.W.findIn X.K (.ref C) "__init__" = some (some (.ref fI))) (tI : PySem.W.typeIn X.K (.ref fI) = some (.type "function"))
    (F1 : FnOk X.prog X.w X.K X.mg X.base CX k fI fd ps sp) (hr : Room (k + 1) X.A) (hb : Binds X.K fd ps []) (hx : Passes CX X (fun _ _ _ => False)) (hg : Gl X x) (hm : X.mg x = some (.ref C)) (ha : PA X (e :: es) ta)
    (hdb : (x == ("__debug__" : Str)) = false := by decide) (he : starEach (e :: es) X.env = (false, eval e X.env) :: starEach es X.env := by rfl) (hpl : (backTo pos (starEach es X.env)).any (·.1) = false := by rfl) :
    L2N.PMk X (.Call (.Name x p) (e :: es) [] pos) (tMkO C sp [] ta) := by
  intro pins s σ H Q I h
  refine wpAny_Call_Name_kw (ld_glob I hg hm ?_ hdb)
  refine PySem.W.callWith_K (h₀ := X.base) I.ok.mod.kin T.kC (thn (ha.run pos pins s σ H _ I h) fun us s2 ⟨vs, H1, I1, r1, hz, q1⟩ => ⟨I1.kIn, ?_⟩) he hpl
  rw [List.append_nil] at q1
  have ll : us.length ≤ sizeLine := by rw [← Paired.length r1, sizeLine_eq]; omega
  exact make_exc T iC tI F1 hr hb hx I1 r1 ll q1
/-- raise C(text), C an own exception that keeps its text; nothing is handled -/
theorem ps_raiseTN {W : WX} {k : Nat} {x : Str} {C D fI : Addr} {fd : FuncData} {ps : List Str} {e : Expr} {te : TE} {p pos pos' : Pos} (hc : X.calm = true) (tk : L2N.Takes X W) (T : TxtE X.prog X.K X.mg D C fI) (tI : PySem.W.typeIn X.K (.ref fI) = some (.type "function"))
    (F : FnOk X.prog X.w X.K X.mg X.base CX0 k fI fd ps (spBT X.prog X.K X.mg D)) (hr : Room (k + 1) X.A) (hb : Binds X.K fd ps []) (hg : Gl X x) (hm : X.mg x = some (.ref C)) (he : PE X e te)
    (hdb : (x == ("__debug__" : Str)) = false := by decide) (hst : starEach [e] X.env = (false, eval e X.env) :: starEach [] X.env := by rfl) (hpl : (backTo pos (starEach [] X.env)).any (·.1) = false := by rfl) :
    PS X (.Raise (some (.Call (.Name x p) [e] [] pos)) none pos') (tRaiseT X.prog X.K X.mg D C W te) :=
  L2N.ps_raise hc tk (pmk_oexN T.ox T.ic tI F hr hb pass0 hg hm (pa_cons he pa_nil hst) hdb hst hpl)
/-- raise C(text) from None, within an except suite -/
theorem ps_raiseTH {W : WX} {k : Nat} {x : Str} {C D fI : Addr} {fd : FuncData} {ps : List Str} {e : Expr} {te : TE} {j : Nat} {p pos cpos pos' : Pos} (hot : HotC X) (tk : L2.Takes X W) (T : TxtE X.prog X.K X.mg D C fI) (tI : PySem.W.typeIn X.K (.ref fI) = some (.type "function"))
    (F : FnH X.prog X.w X.K X.mg X.base CX0 k fI fd ps (spBT X.prog X.K X.mg D)) (hr : RoomH (k + 1) X.A) (hb : Binds X.K fd ps []) (hg : Gl X x) (hm : X.mg x = some (.ref C)) (he : PE X e te)
    (hdb : (x == ("__debug__" : Str)) = false := by decide) (hst : starEach [e] X.env = (false, eval e X.env) :: starEach [] X.env := by rfl) (hpl : (backTo pos (starEach [] X.env)).any (·.1) = false := by rfl) :
    PS X (.Raise (some (.Call (.Name x p) [e] [] pos)) (some (.Constant .none j cpos)) pos') (tRaiseT X.prog X.K X.mg D C W te) :=
  ps_raiseHN hot tk (pmk5_oexH T.ox T.ic tI F hr hot hb pass0 hg hm (pa_cons he pa_nil hst) hdb hst hpl)
end
end SpX
namespace L2
open PySem PySem.Spec PyProof.Rows
/-- a def that lets out exceptions whose context is None -/
theorem Fun.okN {P : Program} {w : World} {K : PySem.W.Frag} {mg : Str → Option Value} {base : Heap} {x qual : Str} {st : Stmt} {f : Addr} {fd : FuncData} {N ps : List Str} {k : Nat} {sp : Sp} (F : Fun K x qual st f fd) (S : FnScope N ps (defScope st)) (ln : ∀ vs H Q E, sp vs H Q E → vs.length = ps.length)
    (hb : ∀ (cdv : Value) (A : Around) (outer : List Env) (s : Shared) (H : Hp) (vs : List V) (Q : VK) (E : XK), Room k (A.deeper (envOfC qual (defScope st) s.heap.objs.size f cdv)) → sp vs H Q E → ∃ t, PSs (cxOf (L2N.CX P w) P w K mg base N qual (defScope st) f cdv A outer s H E) (defBody st) t ∧ t { nx := fun _ H' => Q .non H', rt := Q } (start N vs) H) :
    FnOk P w K mg base (L2N.CX P w) (k + 1) f fd ps sp := by
  obtain ⟨_, _, _, _, _, _, _, _, _, rfl, lk, hcd⟩ := F.ex
  exact fn_of lk hcd S ln fun A outer s H vs Q E hr q => hb _ A outer s H vs Q E hr q
end L2

set_option Elab.async false
set_option linter.all false
set_option maxRecDepth 100000
set_option maxHeartbeats 2000000
set_option exponentiation.threshold 20000
/-! k65: a polynomial is read. -/
namespace SpX
open PySem PySem.Spec NumText L2 StX RZ
open TL (tl)
theorem num_inj {a b : Nat} (h : numD a = numD b) : a = b := by rw [← num_val a, h, num_val]
/-- the written form tells the number -/
theorem written_num {t b u c : Int} (h : written t b = written u c) (hb : 0 < b) (hc : 0 < c) : t.natAbs = u.natAbs ∧ b = c := by
  have hB : part47 (body (written t b)) = part47 (body (written u c)) := by rw [h]
  rw [body_written, body_written] at hB
  have f1 : 47 ∉ numD t.natAbs := num_no (.inl (by decide))
  have f2 : 47 ∉ numD u.natAbs := num_no (.inl (by decide))
  by_cases h1 : b = 1 <;> by_cases h2 : c = 1
  · rw [if_pos h1, if_pos h2, List.append_nil, List.append_nil, part47_free f1, part47_free f2] at hB
    exact ⟨num_inj (Prod.mk.inj hB).1, by omega⟩
  · rw [if_pos h1, if_neg h2, List.append_nil, part47_free f1, part47_at f2] at hB
    cases (Prod.mk.inj hB).2
  · rw [if_neg h1, if_pos h2, List.append_nil, part47_at f1, part47_free f2] at hB
    cases (Prod.mk.inj hB).2
  · rw [if_neg h1, if_neg h2, part47_at f1, part47_at f2] at hB
    have e := num_inj (Option.some.inj (Prod.mk.inj hB).2)
    exact ⟨num_inj (Prod.mk.inj hB).1, by omega⟩
theorem numOf_long {t b : Int} (hb : 0 < b) (h : ¬ (t.natAbs < 10 ^ 60 ∧ b.natAbs < 10 ^ 60)) : numOf (written t b) = none := by
  cases e : numOf (written t b) with
  | none => rfl
  | some p =>
    obtain ⟨u, c⟩ := p
    obtain ⟨w1, w2, _, w4, w5⟩ := numOf_sound e
    obtain ⟨e1, e2⟩ := written_num w1 w2 hb
    exact absurd ⟨by omega, by omega⟩ h
theorem wr_len {t b : Int} {k : Nat} (l1 : (numD t.natAbs).length ≤ k) (l2 : (numD b.natAbs).length ≤ k) : (written t b).length ≤ 2 * k + 2 := by
  unfold written
  simp only [List.length_append]
  have e1 : (if t < 0 then [45] else [] : List Nat).length ≤ 1 := by split <;> simp
  have e2 : (if b = 1 then [] else 47 :: numD b.natAbs : List Nat).length ≤ k + 1 := by
    split
    · simp
    · rw [List.length_cons]
      omega
  omega
def spRPoly (C PC BP : Addr) : Sp := fun vs H Q E => ∃ (a : Str) (es : List Int) (t b : Int), vs = [.str a, .int es.length] ∧ Exps es ∧ letD es ≠ [] ∧ (letD es).length ≤ 1000 ∧ Low t b ∧ t ≠ 0 ∧ t.natAbs < 10 ^ 5400 ∧ b.natAbs < 10 ^ 5400 ∧ tl a = (if t < 0 then [45] else []) ++ sizeD t.natAbs b (letD es) ∧
  (if t.natAbs < 10 ^ 60 ∧ b.natAbs < 10 ^ 60 then ∀ p H', PolyAt C PC H' p es t b → Same H H' → Q (.ref p) H' else ∀ (d : Addr) (H' : Hp), H' d = some (.xd [("text", .str a)]) → Same H H' → E (.ref BP) (some d) H')
def m_rp (K : PySem.W.Frag) (BN BP LA : Addr) : Value → Option Bool := fun cls => PySem.W.exmAny K cls [.ref BN, .ref BP, .ref LA]
def t_rpbody (C PC BN : Addr) (W : WX) : TS := tAsg (tMake PC (spPInit C PC) [] E0 (tCons (tVar 1) (tCons (tCallS (spRTerms C BN) (WE W) (tCons (tVar 0) (tCons (tVar 1) tNil))) tNil))) (gName 2)
def t_rptry (LA : Addr) (P : Program) (K : PySem.W.Frag) (mg : Str → Option Value) (C Z D BN PC VA BP f_place : Addr) (E : XK) : TS := fun DD σ H =>
  t_rpbody C PC BN (wTest (m_rp K BN BP LA) (fun _ _ _ => tRaiseT P K mg D BP (fun cls d _ H => E cls d H) (tVar 0)) (fun cls d _ H => E cls d H) DD) DD σ H
def t_rpoly (LA : Addr) (P : Program) (K : PySem.W.Frag) (mg : Str → Option Value) (C Z D BN PC VA BP f_place : Addr) (E : XK) : TS :=
    (tSeq (tDrop (tCall spChk3 [] E0 (tCons (tVar 1) tNil)))
    (tSeq (tIfS (tTest (tOp (rI0 fun i j => .bl (decide (j < i))) (tCB rLenT (tCons (tVar 0) tNil)) (tC (.int 135660)))) tNever tNext)
    (tSeq (t_rptry LA P K mg C Z D BN PC VA BP f_place E)
    (tSeq (tIfS (tTest (tOp rNe (tCB (rOwnStr PC (spPStr C PC) E0) (tCons (tVar 2) tNil)) (tVar 0))) tNever tNext)
    (tRet (tVar 2))))))
section
variable {P0 : Program} {K : PySem.W.Frag} {mg : Str → Option Value} {C Z D BN PC VA BP f_place : Addr}
/-- the polynomial is made out of the term -/
theorem poly_of {es : List Int} {t b : Int} {l x dx : Addr} {H : Hp} {Q : VK} {E : XK} (hl : TermAt C H l es t b) (hx : Exps es) (nz : t ≠ 0) (n1 : H x = none) (n2 : H dx = none) (n3 : dx ≠ x) (k : ∀ H', PolyAt C PC H' x es t b → Same H H' → Q (.ref x) H') :
    spPInit C PC [.ref x, .int es.length, .ref l] (upd (upd H dx (.own x)) x (.ins PC dx [])) (fun v H2 => v = .non ∧ Q (.ref x) H2) E := by
  have s0 : Same H (upd (upd H dx (.own x)) x (.ins PC dx [])) := fun c o hc => by
    rw [upd_ne (ne_of_none hc n1), upd_ne (ne_of_none hc n2)]
    exact hc
  obtain ⟨q, e, r, h1, h2, h3, h4⟩ := hl
  refine ⟨x, dx, l, es, t, b, rfl, upd_same, ⟨q, e, r, s0 _ _ h1, s0 _ _ h2, s0 _ _ h3, h4.same s0⟩, hx, nz, fun H' hp kp => ⟨rfl, k H' hp fun c o hc => ?_⟩⟩
  exact kp _ _ (ne_of_none hc n1) (s0 _ _ hc)
theorem bd60' {i : Int} (h : i.natAbs < 10 ^ 60) : Bd 17999 i := Nat.lt_of_lt_of_le h (Nat.le_trans (show 10 ^ 60 ≤ 2 ^ 200 by decide +kernel) (Nat.pow_le_pow_right (by decide) (by decide)))
theorem x_callS2 {sp : Sp} {E : L2.St → XK} {t : TA} {σ : L2.St} {H : Hp} {Q : VK} : tCallS sp E t σ H Q = t σ H fun vs H1 => sp vs H1 Q (E σ) := rfl
theorem written_signs {t b : Int} (h0 : 0 ≤ t) (hb : 0 < b) : ∀ c ∈ written t b, c = 47 ∨ (48 ≤ c ∧ c ≤ 57) := by
  intro c hc
  unfold written at hc
  rw [if_neg (by omega), List.nil_append] at hc
  rcases List.mem_append.mp hc with hc | hc
  · exact .inr (num_dig _ c hc)
  · split at hc
    · cases hc
    · rcases List.mem_cons.mp hc with rfl | hc
      · exact .inl rfl
      · exact .inr (num_dig _ c hc)
theorem written_first {t b : Int} (h0 : 0 ≤ t) : ∃ c l, written t b = c :: l ∧ 48 ≤ c ∧ c ≤ 57 := by
  unfold written
  rw [if_neg (by omega), List.nil_append]
  cases h : numD t.natAbs with
  | nil => exact absurd h (num_ne _)
  | cons c l => exact ⟨c, _, rfl, num_dig t.natAbs c (by rw [h]; exact List.mem_cons_self)⟩
theorem str_mk (l : List Nat) : ∃ y : Str, tl y = l := ⟨⟨l.toArray⟩, rfl⟩
theorem pure_rpoly {LA fI : Addr} (hm : PySem.W.exmAny K (.ref BN) [.ref BN, .ref BP, .ref LA] = some true) (TE : TxtE P0 K mg D BP fI) (vs : List V) (H : Hp) (Q : VK) (E : XK) (h : spRPoly C PC BP vs H Q E) :
    t_rpoly LA P0 K mg C Z D BN PC VA BP f_place E { nx := fun _ H' => Q .non H', rt := Q } (start ["text", "dimension", "found"] vs) H := by
  obtain ⟨a, es, t, b, rfl, x, nl, ln, low, nz, tb, bb, ha, k⟩ := h
  show t_rpoly LA P0 K mg C Z D BN PC VA BP f_place E _ [some (.str a), some (.int es.length), none] H
  have x3 := x.three
  have x1 := x.one
  have la : a.length ≤ 20000 := by
    have l0 : (written t.natAbs b).length ≤ 2 * 5400 + 2 := wr_len (by rw [Int.natAbs_natCast]; exact num_len (by decide) tb) (num_len (by decide) bb)
    clear tb bb k
    have l3 : (sizeD t.natAbs b (letD es)).length ≤ 12000 := by
      unfold sizeD
      split
      · omega
      · simp only [List.length_append, List.length_cons, List.length_nil]
        omega
    rw [tl_len, ha, List.length_append]
    split <;> simp <;> omega
  have big : ∀ n : Nat, n ≤ 100000 → n ≤ sizeLine := fun n hn => Nat.le_trans hn (by decide)
  unfold t_rpoly
  rw [x_seq]
  simp only [x_if, x_test, x_B, x_op, x_un, x_varS, x_var0, x_c, x_I0, x_I, x_U, x_bl, x_ret, x_next, x_eqS, x_neS, x_m0, x_m1, x_isStr, x_SM, x_addT, x_slS, x_lenS, x_strI, x_mulS, x_startT, x_findT, x_preT, x_lstT, x_ascT, x_digT, x_jn, x_js0, x_js1, x_isS, x_fmt, x_fmtS, x_divW, x_truK, x_truS, x_raiseT, x_asg, x_name, x_set0, x_setS, x_drop, x_cb, x_cons, x_nil, x_int1, x_abs1, x_max2, x_gcd, x_gsub, x_sl, x_part, x_nopart, x_int, x_call, x_lst, x_tup, x_not, x_and, x_or, x_andV, x_orV, x_notV, x_ifE, x_eqI, x_neI, x_eqB, x_neB, x_tbm, x_never, x_make, x_meth, x_isII, x_isIC, x_bool1, decide_eq_true_eq, Bool.false_eq_true, if_false, if_true, List.append_nil, List.nil_append, List.cons_append]
  refine ⟨(es.length : Int), rfl, by omega, by omega, ?_⟩
  dsimp only
  rw [x_seq]
  simp only [x_if, x_test, x_B, x_op, x_un, x_varS, x_var0, x_c, x_I0, x_I, x_U, x_bl, x_ret, x_next, x_eqS, x_neS, x_m0, x_m1, x_isStr, x_SM, x_addT, x_slS, x_lenS, x_strI, x_mulS, x_startT, x_findT, x_preT, x_lstT, x_ascT, x_digT, x_jn, x_js0, x_js1, x_isS, x_fmt, x_fmtS, x_divW, x_truK, x_truS, x_raiseT, x_asg, x_name, x_set0, x_setS, x_drop, x_cb, x_cons, x_nil, x_int1, x_abs1, x_max2, x_gcd, x_gsub, x_sl, x_part, x_nopart, x_int, x_call, x_lst, x_tup, x_not, x_and, x_or, x_andV, x_orV, x_notV, x_ifE, x_eqI, x_neI, x_eqB, x_neB, x_tbm, x_never, x_make, x_meth, x_isII, x_isIC, x_bool1, decide_eq_true_eq, Bool.false_eq_true, if_false, if_true, List.append_nil, List.nil_append, List.cons_append]
  refine ⟨big _ (by omega), ?_⟩
  rw [if_neg (by omega), x_seq]
  have wne : wordsS es ≠ [] := by
    intro h
    have := words_tl x
    rw [h] at this
    refine nl ?_
    unfold letD
    rw [← this]
    rfl
  have sg : (if t < 0 then (-1 : Int) else 1) = 1 ∨ (if t < 0 then (-1 : Int) else 1) = -1 := by split <;> simp
  -- the polynomial stands
  have fin : ∀ (p : Addr) (H1 : Hp), t.natAbs < 10 ^ 60 ∧ b.natAbs < 10 ^ 60 → PolyAt C PC H1 p es t b → Same H H1 → tSeq (tIfS (tTest (tOp rNe (tCB (rOwnStr PC (spPStr C PC) E0) (tCons (tVar 2) tNil)) (tVar 0))) tNever tNext) (tRet (tVar 2)) { nx := fun _ H' => Q .non H', rt := Q } [some (.str a), some (.int es.length), some (.ref p)] H1 := by
    intro p H1 h60 hp s1
    rw [if_pos h60] at k
    obtain ⟨dx, l, q, e, r, d, hp0, _⟩ := id hp
    rw [x_seq]
    simp only [x_if, x_test, x_B, x_op, x_un, x_varS, x_var0, x_c, x_I0, x_I, x_U, x_bl, x_ret, x_next, x_eqS, x_neS, x_m0, x_m1, x_isStr, x_SM, x_addT, x_slS, x_lenS, x_strI, x_mulS, x_startT, x_findT, x_preT, x_lstT, x_ascT, x_digT, x_jn, x_js0, x_js1, x_isS, x_fmt, x_fmtS, x_divW, x_truK, x_truS, x_raiseT, x_asg, x_name, x_set0, x_setS, x_drop, x_cb, x_cons, x_nil, x_int1, x_abs1, x_max2, x_gcd, x_gsub, x_sl, x_part, x_nopart, x_int, x_call, x_lst, x_tup, x_not, x_and, x_or, x_andV, x_orV, x_notV, x_ifE, x_eqI, x_neI, x_eqB, x_neB, x_tbm, x_never, x_make, x_meth, x_isII, x_isIC, x_bool1, decide_eq_true_eq, Bool.false_eq_true, if_false, if_true, List.append_nil, List.nil_append, List.cons_append]
    rw [x_ownStr hp0]
    refine ⟨p, es, t, b, rfl, hp, x, nl, ln, low, nz, ?_, ?_, fun y H2 hy s2 => ⟨y, rfl, ?_⟩⟩
    · exact bd60' h60.1
    · exact bd60' h60.2
    · simp only [x_seq, x_if, x_test, x_B, x_op, x_un, x_varS, x_var0, x_c, x_I0, x_I, x_U, x_bl, x_ret, x_next, x_eqS, x_neS, x_m0, x_m1, x_isStr, x_SM, x_addT, x_slS, x_lenS, x_strI, x_mulS, x_startT, x_findT, x_preT, x_lstT, x_ascT, x_digT, x_jn, x_js0, x_js1, x_isS, x_fmt, x_fmtS, x_divW, x_truK, x_truS, x_raiseT, x_asg, x_name, x_set0, x_setS, x_drop, x_cb, x_cons, x_nil, x_int1, x_abs1, x_max2, x_gcd, x_gsub, x_sl, x_part, x_nopart, x_int, x_call, x_lst, x_tup, x_not, x_and, x_or, x_andV, x_orV, x_notV, x_ifE, x_eqI, x_neI, x_eqB, x_neB, x_tbm, x_never, x_make, x_meth, x_isII, x_isIC, x_bool1, decide_eq_true_eq, Bool.false_eq_true, if_false, if_true, List.append_nil, List.nil_append, List.cons_append]
      rw [dec_str, hy, ha, decide_eq_true rfl]
      exact k p H2 (hp.same s2) (s1.trans s2)
  have bad : ¬ (t.natAbs < 10 ^ 60 ∧ b.natAbs < 10 ^ 60) → ∀ (d : Addr) (H' : Hp), H' d = some (.xd [("text", .str a)]) → Same H H' → E (.ref BP) (some d) H' := fun h => by
    rw [if_neg h] at k
    exact k
  unfold t_rptry t_rpbody
  simp only [x_asg, x_make, x_cons, x_varS, x_var0, x_nil, x_callS2]
  have cont : ∀ (l : Addr) (H1 : Hp), t.natAbs < 10 ^ 60 ∧ b.natAbs < 10 ^ 60 → TermAt C H1 l es t b → Same H H1 → ∀ (x_1 dx : Addr), H1 x_1 = none → H1 dx = none → dx ≠ x_1 → spPInit C PC (V.ref x_1 :: ([V.int es.length, .ref l] ++ [])) (upd (upd H1 dx (.own x_1)) x_1 (.ins PC dx []))
      (fun v H2 => v = .non ∧ gName 2 (V.ref x_1) [some (.str a), some (.int es.length), none] H2 (tSeq (tIfS (tTest (tOp rNe (tCB (rOwnStr PC (spPStr C PC) E0) (tCons (tVar 2) tNil)) (tVar 0))) tNever tNext) (tRet (tVar 2)) { nx := fun _ H' => Q .non H', rt := Q })) E0 := by
    intro l H1 h60 hl s1 p dx n1 n2 n3
    refine poly_of (Q := fun v H2 => gName 2 v [some (.str a), some (.int es.length), none] H2 (tSeq (tIfS (tTest (tOp rNe (tCB (rOwnStr PC (spPStr C PC) E0) (tCons (tVar 2) tNil)) (tVar 0))) tNever tNext) (tRet (tVar 2)) { nx := fun _ H' => Q .non H', rt := Q })) hl x nz n1 n2 n3 fun H2 hp s2 => ?_
    simp only [x_name, x_set0, x_setS]
    exact fin p H2 h60 hp (s1.trans s2)
  by_cases h1 : t.natAbs = 1 ∧ b = 1
  · -- the number is not written
    have h60 : t.natAbs < 10 ^ 60 ∧ b.natAbs < 10 ^ 60 := by
      rw [h1.1, h1.2]
      exact ⟨by decide +kernel, by decide +kernel⟩
    refine ⟨a, (if t < 0 then -1 else 1), es, none, rfl, sg, ?_, by omega, x, wne, ?_⟩
    · unfold TermText
      rw [ha]
      have e1 : (if (if t < 0 then (-1 : Int) else 1) = -1 then [45] else [] : List Nat) = (if t < 0 then [45] else []) := by
        by_cases h : t < 0 <;> simp [h]
      rw [e1]
      congr 1
      unfold sizeD
      rw [if_pos ⟨by rw [h1.1]; rfl, h1.2⟩]
      show letD es = TL.joinL [32] ((wordsS es).map tl)
      rw [words_tl x]
      rfl
    · intro l H1 hl s1
      have et : (if t < 0 then (-1 : Int) else 1) = t := by split <;> omega
      rw [et, ← h1.2] at hl
      exact cont l H1 h60 hl s1
  · obtain ⟨N, hN⟩ := str_mk (written t.natAbs b)
    have hb := low.pos
    refine ⟨a, (if t < 0 then -1 else 1), es, some N, rfl, sg, ?_, by omega, x, wne, ?_⟩
    · unfold TermText
      rw [ha]
      have e1 : (if (if t < 0 then (-1 : Int) else 1) = -1 then [45] else [] : List Nat) = (if t < 0 then [45] else []) := by
        by_cases h : t < 0 <;> simp [h]
      rw [e1]
      congr 1
      unfold sizeD
      rw [if_neg (by omega)]
      show _ = TL.joinL [32] (tl N :: (wordsS es).map tl)
      rw [words_tl x, hN]
      unfold letD
      cases hw : wordsD es with
      | nil => exact absurd (by unfold letD; rw [hw]; rfl) nl
      | cons w ws =>
        rfl
    · have signs : ∀ c ∈ tl N, c = 47 ∨ (48 ≤ c ∧ c ≤ 57) := by
        rw [hN]
        exact written_signs (by omega) hb
      have hN0 : ∃ c l, tl N = c :: l ∧ 48 ≤ c ∧ c ≤ 57 := by
        rw [hN]
        exact written_first (by omega)
      refine ⟨?_, hN0, fun h => ?_, fun h => ?_, fun h => ?_, ?_⟩
      · rw [tl_len, hN]
        refine Nat.le_trans (wr_len (k := 5400) ?_ ?_) (by decide)
        · rw [Int.natAbs_natCast]
          exact num_len (by decide) tb
        · exact num_len (by decide) bb
      · have := signs _ h
        omega
      · have := signs _ h
        omega
      · have := signs _ h
        omega
      · by_cases h60 : t.natAbs < 10 ^ 60 ∧ b.natAbs < 10 ^ 60
        · rw [hN, numOf_written hb (by rw [Int.natAbs_natCast]; exact low.cop) (by rw [Int.natAbs_natCast]; exact h60.1) h60.2]
          intro l H1 hl s1
          have et : (t.natAbs : Int) * (if t < 0 then (-1 : Int) else 1) = t := by split <;> omega
          rw [et] at hl
          exact cont l H1 h60 hl s1
        · rw [hN, numOf_long hb (by rw [Int.natAbs_natCast]; exact h60)]
          intro d H1 hd s1
          refine ⟨true, hm, fun _ ax hax => ?_, fun h => Bool.noConfusion h⟩
          show tRaiseT P0 K mg D BP (fun cls d _ H => E cls d H) (tVar 0) _ _ _
          rw [x_raiseT, x_var0]
          refine tail_of TE fun d2 hd2 => bad h60 d2 _ upd_same (Same.new' s1 hd2)
end
end SpX

set_option Elab.async false
set_option linter.all false
set_option maxRecDepth 100000
set_option maxHeartbeats 2000000
set_option exponentiation.threshold 20000
/-! k65: what is refused. -/
namespace SpX
open PySem PySem.Spec NumText L2 StX RZ
open TL (tl)
def spNoNum (C : Addr) : Sp := fun vs H Q _ => ∃ a : Str, vs = [.str a] ∧ a.length ≤ 20000 ∧ numOf (tl a) = none ∧ ∀ H', Same H H' → Q (.bl true) H'
def spNoPol (C PC BP : Addr) : Sp := fun vs H Q _ => ∃ (a : Str) (es : List Int) (t b : Int), vs = [.str a, .int es.length] ∧ Exps es ∧ letD es ≠ [] ∧ (letD es).length ≤ 1000 ∧ Low t b ∧ t ≠ 0 ∧ t.natAbs < 10 ^ 5400 ∧ b.natAbs < 10 ^ 5400 ∧ tl a = (if t < 0 then [45] else []) ++ sizeD t.natAbs b (letD es) ∧ ¬ (t.natAbs < 10 ^ 60 ∧ b.natAbs < 10 ^ 60) ∧ ∀ H', Same H H' → Q (.bl true) H'
def isEi (K : PySem.W.Frag) (BN a : Addr) (cls : Value) (d : Option Addr) (i : Nat) (v : V) : TE := tCB (rCaughtD K BN a cls d) (tCons (tVar i) (tCons (tC v) tNil))
/-- right = e.text == text and isinstance(e, BT) and not isinstance(e, BP) -/
def t_rightc (K : PySem.W.Frag) (BN BT BP : Addr) (i j : Nat) (a : Addr) (cls : Value) (d : Option Addr) : TS :=
  tAsg (tAndV (tOp rEq (tXf a cls d BN "text" (tVar i)) (tVar 0)) (tAndV (isEi K BN a cls d i (.ref BT)) (tNotV (isEi K BN a cls d i (.ref BP))))) (gName j)
def t_nonumb (C BN : Addr) (W : WX) : TS := tDrop (tSM (spRead C BN) (WE W) (tCons (tVar 0) tNil))
def t_nonumtry (BT : Addr) (K : PySem.W.Frag) (C BN PC BP : Addr) : TS := fun D σ H => t_nonumb C BN (wAs K (.ref BN) 2 (t_rightc K BN BT BP 2 1) (fun _ _ _ _ => False) D) D σ H
def t_nopolb (C PC BP : Addr) (W : WX) : TS := tDrop (tCallS (spRPoly C PC BP) (WE W) (tCons (tVar 0) (tCons (tVar 1) tNil)))
def t_nopoltry (BT : Addr) (K : PySem.W.Frag) (C BN PC BP : Addr) : TS := fun D σ H => t_nopolb C PC BP (wAs K (.ref BP) 3 (t_rightc K BP BT BN 3 2) (fun _ _ _ _ => False) D) D σ H
def t_nonum (BT : Addr) (P : Program) (K : PySem.W.Frag) (mg : Str → Option Value) (C Z D BN PC VA BP f_place : Addr) (E : XK) : TS :=
    (tSeq (tAsg (tC (.bl false)) (gName 1))
    (tSeq (t_nonumtry BT K C BN PC BP)
    (tRet (tVar 1))))
def t_nopol (BT : Addr) (P : Program) (K : PySem.W.Frag) (mg : Str → Option Value) (C Z D BN PC VA BP f_place : Addr) (E : XK) : TS :=
    (tSeq (tAsg (tC (.bl false)) (gName 2))
    (tSeq (t_nopoltry BT K C BN PC BP)
    (tRet (tVar 2))))
theorem isEi_of {K : PySem.W.Frag} {BN a c d : Addr} {i : Nat} {fs : List (Str × V)} {b : Bool} {σ : L2.St} {H : Hp} {Q : VK} (h4 : σ[i]? = some (some (.ref a))) (ed : H d = some (.xd fs)) (h : PySem.W.kitOne K (.ref BN) (.ref c) = some b) (k : Q (.bl b) H) : isEi K BN a (.ref BN) (some d) i (.ref c) σ H Q :=
  ⟨_, h4, rfl, ⟨d, fs, rfl, ed⟩, .ref c, .ref c, b, rfl, fun u r => r, h, k⟩
theorem right_of {K : PySem.W.Frag} {BN BT BP ax d : Addr} {i j : Nat} {a : Str} {σ : L2.St} {H : Hp} {DD : Ends} (h0 : σ[0]? = some (some (.str a))) (hi : σ[i]? = some (some (.ref ax))) (ed : H d = some (.xd [("text", .str a)])) (bt : PySem.W.kitOne K (.ref BN) (.ref BT) = some true) (bp : PySem.W.kitOne K (.ref BN) (.ref BP) = some false)
    (k : DD.nx (σ.set j (some (.bl true))) H) : t_rightc K BN BT BP i j ax (.ref BN) (some d) DD σ H := by
  unfold t_rightc
  rw [x_asg, x_andV, x_op]
  refine ⟨_, hi, rfl, rfl, d, _, .str a, rfl, ed, rfl, _, h0, ?_⟩
  simp only [x_eqS, decide_true]
  refine ⟨true, rfl, ?_⟩
  rw [if_pos rfl, x_andV]
  refine isEi_of hi ed bt ⟨true, rfl, ?_⟩
  rw [if_pos rfl, x_notV]
  exact isEi_of hi ed bp ⟨false, rfl, k⟩
section
variable {P0 : Program} {K : PySem.W.Frag} {mg : Str → Option Value} {C Z D BN PC VA BP f_place : Addr}
theorem pure_nonum {BT : Addr} (is : PySem.W.exmOne K (.ref BN) (.ref BN) = some true) (bt : PySem.W.kitOne K (.ref BN) (.ref BT) = some true) (bp : PySem.W.kitOne K (.ref BN) (.ref BP) = some false) (vs : List V) (H : Hp) (Q : VK) (E : XK) (h : spNoNum C vs H Q E) :
    t_nonum BT P0 K mg C Z D BN PC VA BP f_place E { nx := fun _ H' => Q .non H', rt := Q } (start ["text", "right", "e"] vs) H := by
  obtain ⟨a, rfl, la, hn, k⟩ := h
  show t_nonum BT P0 K mg C Z D BN PC VA BP f_place E _ [some (.str a), none, none] H
  unfold t_nonum
  rw [x_seq]
  simp only [x_if, x_test, x_B, x_op, x_un, x_varS, x_var0, x_c, x_I0, x_I, x_U, x_bl, x_ret, x_next, x_eqS, x_neS, x_m0, x_m1, x_isStr, x_SM, x_addT, x_slS, x_lenS, x_strI, x_mulS, x_startT, x_findT, x_preT, x_lstT, x_ascT, x_digT, x_jn, x_js0, x_js1, x_isS, x_fmt, x_fmtS, x_divW, x_truK, x_truS, x_raiseT, x_asg, x_name, x_set0, x_setS, x_drop, x_cb, x_cons, x_nil, x_int1, x_abs1, x_max2, x_gcd, x_gsub, x_sl, x_part, x_nopart, x_int, x_call, x_lst, x_tup, x_not, x_and, x_or, x_andV, x_orV, x_notV, x_ifE, x_eqI, x_neI, x_eqB, x_neB, x_tbm, x_never, x_make, x_meth, x_isII, x_isIC, x_bool1, decide_eq_true_eq, Bool.false_eq_true, if_false, if_true, List.append_nil, List.nil_append, List.cons_append]
  rw [x_seq]
  unfold t_nonumtry t_nonumb
  rw [x_drop, x_SM, x_cons, x_var0, x_nil]
  refine ⟨a, rfl, Nat.le_trans la (by decide), ?_⟩
  rw [hn]
  intro d H1 ed s1
  refine ⟨true, is, fun _ ax hax => ?_, fun h => Bool.noConfusion h⟩
  refine right_of rfl rfl ed bt bp ?_
  simp only [x_seq, x_if, x_test, x_B, x_op, x_un, x_varS, x_var0, x_c, x_I0, x_I, x_U, x_bl, x_ret, x_next, x_eqS, x_neS, x_m0, x_m1, x_isStr, x_SM, x_addT, x_slS, x_lenS, x_strI, x_mulS, x_startT, x_findT, x_preT, x_lstT, x_ascT, x_digT, x_jn, x_js0, x_js1, x_isS, x_fmt, x_fmtS, x_divW, x_truK, x_truS, x_raiseT, x_asg, x_name, x_set0, x_setS, x_drop, x_cb, x_cons, x_nil, x_int1, x_abs1, x_max2, x_gcd, x_gsub, x_sl, x_part, x_nopart, x_int, x_call, x_lst, x_tup, x_not, x_and, x_or, x_andV, x_orV, x_notV, x_ifE, x_eqI, x_neI, x_eqB, x_neB, x_tbm, x_never, x_make, x_meth, x_isII, x_isIC, x_bool1, decide_eq_true_eq, Bool.false_eq_true, if_false, if_true, List.append_nil, List.nil_append, List.cons_append]
  exact k H1 s1
theorem pure_nopol {BT : Addr} (is : PySem.W.exmOne K (.ref BP) (.ref BP) = some true) (bt : PySem.W.kitOne K (.ref BP) (.ref BT) = some true) (bn : PySem.W.kitOne K (.ref BP) (.ref BN) = some false) (vs : List V) (H : Hp) (Q : VK) (E : XK) (h : spNoPol C PC BP vs H Q E) :
    t_nopol BT P0 K mg C Z D BN PC VA BP f_place E { nx := fun _ H' => Q .non H', rt := Q } (start ["text", "dimension", "right", "e"] vs) H := by
  obtain ⟨a, es, t, b, rfl, x, nl, ln, low, nz, tb, bb, ha, h60, k⟩ := h
  show t_nopol BT P0 K mg C Z D BN PC VA BP f_place E _ [some (.str a), some (.int es.length), none, none] H
  unfold t_nopol
  rw [x_seq]
  simp only [x_if, x_test, x_B, x_op, x_un, x_varS, x_var0, x_c, x_I0, x_I, x_U, x_bl, x_ret, x_next, x_eqS, x_neS, x_m0, x_m1, x_isStr, x_SM, x_addT, x_slS, x_lenS, x_strI, x_mulS, x_startT, x_findT, x_preT, x_lstT, x_ascT, x_digT, x_jn, x_js0, x_js1, x_isS, x_fmt, x_fmtS, x_divW, x_truK, x_truS, x_raiseT, x_asg, x_name, x_set0, x_setS, x_drop, x_cb, x_cons, x_nil, x_int1, x_abs1, x_max2, x_gcd, x_gsub, x_sl, x_part, x_nopart, x_int, x_call, x_lst, x_tup, x_not, x_and, x_or, x_andV, x_orV, x_notV, x_ifE, x_eqI, x_neI, x_eqB, x_neB, x_tbm, x_never, x_make, x_meth, x_isII, x_isIC, x_bool1, decide_eq_true_eq, Bool.false_eq_true, if_false, if_true, List.append_nil, List.nil_append, List.cons_append]
  rw [x_seq]
  unfold t_nopoltry t_nopolb
  rw [x_drop, x_callS2, x_cons, x_var0, x_cons, x_varS, x_var0, x_nil]
  refine ⟨a, es, t, b, rfl, x, nl, ln, low, nz, tb, bb, ha, ?_⟩
  rw [if_neg h60]
  intro d H1 ed s1
  refine ⟨true, is, fun _ ax hax => ?_, fun h => Bool.noConfusion h⟩
  refine right_of rfl rfl ed bt bn ?_
  simp only [x_seq, x_if, x_test, x_B, x_op, x_un, x_varS, x_var0, x_c, x_I0, x_I, x_U, x_bl, x_ret, x_next, x_eqS, x_neS, x_m0, x_m1, x_isStr, x_SM, x_addT, x_slS, x_lenS, x_strI, x_mulS, x_startT, x_findT, x_preT, x_lstT, x_ascT, x_digT, x_jn, x_js0, x_js1, x_isS, x_fmt, x_fmtS, x_divW, x_truK, x_truS, x_raiseT, x_asg, x_name, x_set0, x_setS, x_drop, x_cb, x_cons, x_nil, x_int1, x_abs1, x_max2, x_gcd, x_gsub, x_sl, x_part, x_nopart, x_int, x_call, x_lst, x_tup, x_not, x_and, x_or, x_andV, x_orV, x_notV, x_ifE, x_eqI, x_neI, x_eqB, x_neB, x_tbm, x_never, x_make, x_meth, x_isII, x_isIC, x_bool1, decide_eq_true_eq, Bool.false_eq_true, if_false, if_true, List.append_nil, List.nil_append, List.cons_append]
  exact k H1 s1
end
end SpX

set_option Elab.async false
set_option linter.all false
set_option maxRecDepth 100000
set_option maxHeartbeats 4000000
set_option exponentiation.threshold 20000
/-! k65: the law. -/
namespace SpX
open PySem PySem.Spec NumText L2 StX RZ
open TL (tl)
theorem joinL_len : ∀ (ls : List (List Nat)), (∀ l ∈ ls, l.length ≤ 10) → (TL.joinL [32] ls).length ≤ 11 * ls.length
  | [], _ => Nat.zero_le _
  | [p], h => by
    have := h p (by simp)
    show p.length ≤ 11 * 1
    omega
  | p :: q :: r, h => by
    have h1 := h p (by simp)
    have ih := joinL_len (q :: r) fun l hl => h l (by simp [List.mem_cons.mp hl])
    show (p ++ ([32] ++ TL.joinL [32] (q :: r))).length ≤ 11 * (q :: r).length.succ
    simp only [List.length_append, List.length_cons, List.length_nil] at ih ⊢
    omega
theorem letD_len {es : List Int} (x : Exps es) : (letD es).length ≤ 1000 := by
  have x3 := x.three
  unfold letD
  rw [← words_tl x]
  refine Nat.le_trans (joinL_len _ fun l hl => ?_) ?_
  · obtain ⟨y, hy, rfl⟩ := List.mem_map.mp hl
    obtain ⟨p, hp, rfl⟩ := List.mem_map.mp hy
    obtain ⟨p1, p2, p3⟩ := pairs_mem (n := es.length) es 0 x.pos (by omega) p hp
    obtain ⟨j, hj⟩ := List.getElem?_of_mem p3
    have := wordS_len (k := p.1) (e := p.2) (by omega) p2 (exps_le x hj).2
    rw [← tl_len]
    exact this
  · unfold wordsS
    rw [List.length_map, List.length_map]
    have := pairs_le es 0
    omega
theorem pairs_nil : ∀ (es : List Int) (k : Nat), pairsK k es = [] → es.sum = 0
  | [], _, _ => rfl
  | e :: r, k, h => by
    obtain ⟨h1, h2⟩ := List.append_eq_nil_iff.mp (show pairK k e ++ pairsK (k + 1) r = [] from h)
    have := pairs_nil r (k + 1) h2
    have e0 : e = 0 := by
      unfold pairK at h1
      split at h1
      · assumption
      · cases h1
    rw [List.sum_cons, this, e0]
    rfl
theorem letD_ne {es : List Int} (x : Exps es) (h : 1 ≤ es.sum) : letD es ≠ [] := by
  unfold letD
  rw [← words_tl x]
  have ne : (wordsS es).map tl ≠ [] := by
    intro e
    have e2 : pairsK 0 es = [] := by
      unfold wordsS at e
      rw [List.map_map] at e
      exact List.map_eq_nil_iff.mp e
    have := pairs_nil es 0 e2
    omega
  obtain ⟨c, r, e, _⟩ := join_head _ ne fun l hl => by
    obtain ⟨y, hy, rfl⟩ := List.mem_map.mp hl
    exact words_first x y hy
  rw [e]
  simp
theorem pow_low {t b : Int} (n : Num6 t b) (k : Nat) : Low (t ^ k) (b ^ k) := by
  refine ⟨Int.pow_pos n.low.pos, ?_⟩
  rw [Int.natAbs_pow, Int.natAbs_pow]
  exact Nat.Coprime.pow k k n.low.cop
theorem pow_lt {t : Int} {k : Nat} (h : t.natAbs < 10 ^ 60) (hk : k ≤ 90) (k0 : 0 < k) : (t ^ k).natAbs < 10 ^ 5400 := by
  rw [Int.natAbs_pow]
  refine Nat.lt_of_lt_of_le (Nat.pow_lt_pow_left h (by omega)) ?_
  rw [← Nat.pow_mul]
  exact Nat.pow_le_pow_right (by decide) (by omega)
theorem bd5400 {i : Int} (h : i.natAbs < 10 ^ 5400) : Bd 17999 i := Nat.lt_of_lt_of_le h (by decide +kernel)
theorem e60 : (10 : Int) ^ (Int.toNat 60) = ((10 ^ 60 : Nat) : Int) := by decide +kernel
theorem lt60a {t : Int} : (if t < 0 then -t else t) < 10 ^ (Int.toNat 60) ↔ t.natAbs < 10 ^ 60 := by
  rw [e60]
  generalize (10 ^ 60 : Nat) = M
  split <;> omega
theorem lt60b {b : Int} (h : 0 < b) : b < 10 ^ (Int.toNat 60) ↔ b.natAbs < 10 ^ 60 := by
  rw [e60]
  generalize (10 ^ 60 : Nat) = M
  omega
/-- the term's text -/
theorem term_text {t b : Int} (hb : 0 < b) (m : List Nat) : (if written t b = [49] then m else if written t b = [45, 49] then [45] ++ m else written t b ++ ([32] ++ m)) = (if t < 0 then [45] else []) ++ sizeD t.natAbs b m := by
  have sp : written t b = (if t < 0 then [45] else []) ++ written t.natAbs b := by
    unfold written
    rw [if_neg (show ¬ ((t.natAbs : Int) < 0) by omega), List.nil_append, Int.natAbs_natCast, List.append_assoc]
  have w1 : written 1 1 = [49] := by decide +kernel
  have w2 : written (-1) 1 = [45, 49] := by decide +kernel
  by_cases h1 : t = 1 ∧ b = 1
  · rw [h1.1, h1.2, w1, if_pos rfl]
    rfl
  · by_cases h2 : t = -1 ∧ b = 1
    · rw [h2.1, h2.2, w2, if_neg (by decide), if_pos rfl]
      rfl
    · have sgn1 : ∀ u : Int, written t b = written u 1 → t.natAbs = u.natAbs ∧ b = 1 ∧ decide (t < 0) = decide (u < 0) := by
        intro u e
        obtain ⟨e1, e2⟩ := written_num e hb (by decide)
        refine ⟨e1, e2, ?_⟩
        rw [← neg_written t b, e, neg_written]
      rw [if_neg (fun e => by
        obtain ⟨e1, e2, e3⟩ := sgn1 1 (e.trans w1.symm)
        have : ¬ t < 0 := of_decide_eq_false (e3.trans (by decide))
        omega), if_neg (fun e => by
        obtain ⟨e1, e2, e3⟩ := sgn1 (-1) (e.trans w2.symm)
        have : t < 0 := of_decide_eq_true (e3.trans (by decide))
        omega), sp]
      unfold sizeD
      rw [if_neg (show ¬ ((t.natAbs : Int) = 1 ∧ b = 1) by omega), List.append_assoc]
def t_law65_3 (P : Program) (K : PySem.W.Frag) (mg : Str → Option Value) (C Z D BN PC VA BP f_place : Addr) (E : XK) : TS :=
    (tSeq (tAsg (tCall spLExps [] E0 (tCons (tVar 1) tNil)) (gName 4))
    (tSeq (tAsg (tCall (spLPower C) [] E0 (tCons (tMakeN C 1 1 (spInit C Z) (fun vs zs => vs ++ zs) E0 (tCons (tOp rIx1 (tVar 2) (tC (.int 0))) tNil) (tCons (tOp rIx1 (tVar 2) (tC (.int 1))) tNil)) (tCons (tVar 3) tNil))) (gName 5))
    (tSeq (tAsg (tCall spLDue [] E0 (tCons (tVar 2) (tCons (tVar 3) tNil))) (gName 6))
    (tSeq (tAsg (tCall spLWritten [] E0 (tCons (tVar 6) tNil)) (gName 7))
    (tSeq (tIfS (tOr (tNot (tB (tCall (spLIs C) [] E0 (tCons (tVar 5) (tCons (tVar 6) tNil))))) (tTest (tOp rNe (tCB (rOwnStr C (spStr C) E0) (tCons (tVar 5) tNil)) (tVar 7)))) (tRet (tC (.bl false))) tNext)
    (tSeq (tAsg (tCall spLTerm [] E0 (tCons (tVar 7) (tCons (tCall spLLetters [] E0 (tCons (tVar 4) tNil)) tNil))) (gName 8))
    (tSeq (tAsg (tMakeN PC 1 1 (spPInit C PC) (fun vs zs => vs ++ zs) E0 (tCons (tCB rLenA (tCons (tVar 4) tNil)) tNil) (tCons (tLst (tCons (tTup (tCons (tVar 4) (tCons (tVar 5) tNil))) tNil)) tNil)) (gName 9))
    (tSeq (tIfS (tTest (tOp rNe (tCB (rOwnStr PC (spPStr C PC) E0) (tCons (tVar 9) tNil)) (tVar 8))) (tRet (tC (.bl false))) tNext)
    (tSeq (tIfS (tAnd (tTest (tOp (rI0 fun i j => .bl (decide (i < j))) (tCB rAbs1 (tCons (tOp rIx1 (tVar 6) (tC (.int 0))) tNil)) (tOp (rI CPow fun i j => .int (i ^ j.toNat)) (tC (.int 10)) (tC (.int 60))))) (tTest (tOp (rI0 fun i j => .bl (decide (i < j))) (tOp rIx1 (tVar 6) (tC (.int 1))) (tOp (rI CPow fun i j => .int (i ^ j.toNat)) (tC (.int 10)) (tC (.int 60)))))) (tRet (tAndV (tCall (spLIs C) [] E0 (tCons (tSM (spRead C BN) (fun _ => E0) (tCons (tVar 7) tNil)) (tCons (tVar 6) tNil))) (tOp (rOwn2 PC (spPEq C PC) E0) (tCall (spRPoly C PC BP) [] E0 (tCons (tVar 8) (tCons (tCB rLenA (tCons (tVar 4) tNil)) tNil))) (tVar 9)))) tNext)
    (tRet (tAndV (tCall (spNoNum C) [] E0 (tCons (tVar 7) tNil)) (tCall (spNoPol C PC BP) [] E0 (tCons (tVar 8) (tCons (tCB rLenA (tCons (tVar 4) tNil)) tNil))))))))))))))
def t_law65_6 (P : Program) (K : PySem.W.Frag) (mg : Str → Option Value) (C Z D BN PC VA BP f_place : Addr) (E : XK) : TS :=
    (tSeq (tAsg (tCall spLWritten [] E0 (tCons (tVar 6) tNil)) (gName 7))
    (tSeq (tIfS (tOr (tNot (tB (tCall (spLIs C) [] E0 (tCons (tVar 5) (tCons (tVar 6) tNil))))) (tTest (tOp rNe (tCB (rOwnStr C (spStr C) E0) (tCons (tVar 5) tNil)) (tVar 7)))) (tRet (tC (.bl false))) tNext)
    (tSeq (tAsg (tCall spLTerm [] E0 (tCons (tVar 7) (tCons (tCall spLLetters [] E0 (tCons (tVar 4) tNil)) tNil))) (gName 8))
    (tSeq (tAsg (tMakeN PC 1 1 (spPInit C PC) (fun vs zs => vs ++ zs) E0 (tCons (tCB rLenA (tCons (tVar 4) tNil)) tNil) (tCons (tLst (tCons (tTup (tCons (tVar 4) (tCons (tVar 5) tNil))) tNil)) tNil)) (gName 9))
    (tSeq (tIfS (tTest (tOp rNe (tCB (rOwnStr PC (spPStr C PC) E0) (tCons (tVar 9) tNil)) (tVar 8))) (tRet (tC (.bl false))) tNext)
    (tSeq (tIfS (tAnd (tTest (tOp (rI0 fun i j => .bl (decide (i < j))) (tCB rAbs1 (tCons (tOp rIx1 (tVar 6) (tC (.int 0))) tNil)) (tOp (rI CPow fun i j => .int (i ^ j.toNat)) (tC (.int 10)) (tC (.int 60))))) (tTest (tOp (rI0 fun i j => .bl (decide (i < j))) (tOp rIx1 (tVar 6) (tC (.int 1))) (tOp (rI CPow fun i j => .int (i ^ j.toNat)) (tC (.int 10)) (tC (.int 60)))))) (tRet (tAndV (tCall (spLIs C) [] E0 (tCons (tSM (spRead C BN) (fun _ => E0) (tCons (tVar 7) tNil)) (tCons (tVar 6) tNil))) (tOp (rOwn2 PC (spPEq C PC) E0) (tCall (spRPoly C PC BP) [] E0 (tCons (tVar 8) (tCons (tCB rLenA (tCons (tVar 4) tNil)) tNil))) (tVar 9)))) tNext)
    (tRet (tAndV (tCall (spNoNum C) [] E0 (tCons (tVar 7) tNil)) (tCall (spNoPol C PC BP) [] E0 (tCons (tVar 8) (tCons (tCB rLenA (tCons (tVar 4) tNil)) tNil)))))))))))
def t_law65_11 (P : Program) (K : PySem.W.Frag) (mg : Str → Option Value) (C Z D BN PC VA BP f_place : Addr) (E : XK) : TS :=
    (tSeq (tIfS (tAnd (tTest (tOp (rI0 fun i j => .bl (decide (i < j))) (tCB rAbs1 (tCons (tOp rIx1 (tVar 6) (tC (.int 0))) tNil)) (tOp (rI CPow fun i j => .int (i ^ j.toNat)) (tC (.int 10)) (tC (.int 60))))) (tTest (tOp (rI0 fun i j => .bl (decide (i < j))) (tOp rIx1 (tVar 6) (tC (.int 1))) (tOp (rI CPow fun i j => .int (i ^ j.toNat)) (tC (.int 10)) (tC (.int 60)))))) (tRet (tAndV (tCall (spLIs C) [] E0 (tCons (tSM (spRead C BN) (fun _ => E0) (tCons (tVar 7) tNil)) (tCons (tVar 6) tNil))) (tOp (rOwn2 PC (spPEq C PC) E0) (tCall (spRPoly C PC BP) [] E0 (tCons (tVar 8) (tCons (tCB rLenA (tCons (tVar 4) tNil)) tNil))) (tVar 9)))) tNext)
    (tRet (tAndV (tCall (spNoNum C) [] E0 (tCons (tVar 7) tNil)) (tCall (spNoPol C PC BP) [] E0 (tCons (tVar 8) (tCons (tCB rLenA (tCons (tVar 4) tNil)) tNil))))))
def t_law65 (P : Program) (K : PySem.W.Frag) (mg : Str → Option Value) (C Z D BN PC VA BP f_place : Addr) (E : XK) : TS :=
    (tSeq (tAsg (tCall (spPoolB K) [] E0 (tCons (tVar 0) tNil)) (gName 1))
    (tSeq (tAsg (tCall spLDrawn [] E0 (tCons (tVar 1) tNil)) (gName 2))
    (tSeq (tAsg (tOp (rI0 fun i j => .int (i + j)) (tC (.int 72)) (tCall spTakeB [] E0 (tCons (tVar 1) (tCons (tC (.int 19)) tNil)))) (gName 3))
    (tSeq (tAsg (tCall spLExps [] E0 (tCons (tVar 1) tNil)) (gName 4))
    (tSeq (tAsg (tCall (spLPower C) [] E0 (tCons (tMakeN C 1 1 (spInit C Z) (fun vs zs => vs ++ zs) E0 (tCons (tOp rIx1 (tVar 2) (tC (.int 0))) tNil) (tCons (tOp rIx1 (tVar 2) (tC (.int 1))) tNil)) (tCons (tVar 3) tNil))) (gName 5))
    (tSeq (tAsg (tCall spLDue [] E0 (tCons (tVar 2) (tCons (tVar 3) tNil))) (gName 6))
    (tSeq (tAsg (tCall spLWritten [] E0 (tCons (tVar 6) tNil)) (gName 7))
    (tSeq (tIfS (tOr (tNot (tB (tCall (spLIs C) [] E0 (tCons (tVar 5) (tCons (tVar 6) tNil))))) (tTest (tOp rNe (tCB (rOwnStr C (spStr C) E0) (tCons (tVar 5) tNil)) (tVar 7)))) (tRet (tC (.bl false))) tNext)
    (tSeq (tAsg (tCall spLTerm [] E0 (tCons (tVar 7) (tCons (tCall spLLetters [] E0 (tCons (tVar 4) tNil)) tNil))) (gName 8))
    (tSeq (tAsg (tMakeN PC 1 1 (spPInit C PC) (fun vs zs => vs ++ zs) E0 (tCons (tCB rLenA (tCons (tVar 4) tNil)) tNil) (tCons (tLst (tCons (tTup (tCons (tVar 4) (tCons (tVar 5) tNil))) tNil)) tNil)) (gName 9))
    (tSeq (tIfS (tTest (tOp rNe (tCB (rOwnStr PC (spPStr C PC) E0) (tCons (tVar 9) tNil)) (tVar 8))) (tRet (tC (.bl false))) tNext)
    (tSeq (tIfS (tAnd (tTest (tOp (rI0 fun i j => .bl (decide (i < j))) (tCB rAbs1 (tCons (tOp rIx1 (tVar 6) (tC (.int 0))) tNil)) (tOp (rI CPow fun i j => .int (i ^ j.toNat)) (tC (.int 10)) (tC (.int 60))))) (tTest (tOp (rI0 fun i j => .bl (decide (i < j))) (tOp rIx1 (tVar 6) (tC (.int 1))) (tOp (rI CPow fun i j => .int (i ^ j.toNat)) (tC (.int 10)) (tC (.int 60)))))) (tRet (tAndV (tCall (spLIs C) [] E0 (tCons (tSM (spRead C BN) (fun _ => E0) (tCons (tVar 7) tNil)) (tCons (tVar 6) tNil))) (tOp (rOwn2 PC (spPEq C PC) E0) (tCall (spRPoly C PC BP) [] E0 (tCons (tVar 8) (tCons (tCB rLenA (tCons (tVar 4) tNil)) tNil))) (tVar 9)))) tNext)
    (tRet (tAndV (tCall (spNoNum C) [] E0 (tCons (tVar 7) tNil)) (tCall (spNoPol C PC BP) [] E0 (tCons (tVar 8) (tCons (tCB rLenA (tCons (tVar 4) tNil)) tNil)))))))))))))))))
section
variable {P0 : Program} {K : PySem.W.Frag} {mg : Str → Option Value} {C Z D BN PC VA BP f_place : Addr}
theorem x_makeN {C n m : Nat} {sp : Sp} {gV : List V → List V → List V} {E : XK} {ta tk : TA} {σ : L2.St} {H : Hp} {Q : VK} : tMakeN C n m sp gV E ta tk σ H Q = ta σ H (fun vs H1 => tk σ H1 fun zs H2 => vs.length = n ∧ zs.length = m ∧ ∀ x dx, H2 x = none → H2 dx = none → dx ≠ x → sp (gV (.ref x :: vs) zs) (upd (upd H2 dx (.own x)) x (.ins C dx [])) (fun v H3 => v = .non ∧ Q (.ref x) H3) E) := rfl
theorem pow_ne {t : Int} (h : t ≠ 0) : ∀ k : Nat, t ^ k ≠ 0
  | 0 => by simp
  | k + 1 => by
    rw [Int.pow_succ]
    exact Int.mul_ne_zero (pow_ne h k) h
theorem law_end {a P o e r d p : Addr} {n : Int} {y z : Str} {es : List Int} {t b : Int} {H : Hp} {Q : VK} {E : XK} (x : Exps es) (nl : letD es ≠ []) (ln : (letD es).length ≤ 1000) (low : Low t b) (nz : t ≠ 0) (tb : t.natAbs < 10 ^ 5400) (bb : b.natAbs < 10 ^ 5400)
    (he : ExpAt H e es) (hd : TupAt H d t b) (hy : tl y = written t b) (hz : tl z = (if t < 0 then [45] else []) ++ sizeD t.natAbs b (letD es)) (hp : PolyAt C PC H p es t b) (k : ∀ H', Q (.bl true) H') :
    t_law65_11 P0 K mg C Z D BN PC VA BP f_place E { nx := fun _ H' => Q .non H', rt := Q } [some (.ref a), some (.ref P), some (.ref o), some (.int n), some (.ref e), some (.ref r), some (.ref d), some (.str y), some (.str z), some (.ref p)] H := by
  have ly : y.length ≤ 20000 := by
    rw [tl_len, hy]
    refine Nat.le_trans (wr_len (k := 5400) (num_len (by decide) tb) (num_len (by decide) bb)) (by decide)
  unfold t_law65_11
  rw [x_seq]
  simp only [x_if, x_test, x_B, x_op, x_un, x_varS, x_var0, x_c, x_I0, x_I, x_U, x_bl, x_ret, x_next, x_eqS, x_neS, x_m0, x_m1, x_isStr, x_SM, x_addT, x_slS, x_lenS, x_strI, x_mulS, x_startT, x_findT, x_preT, x_lstT, x_ascT, x_digT, x_jn, x_js0, x_js1, x_isS, x_fmt, x_fmtS, x_divW, x_truK, x_truS, x_raiseT, x_asg, x_name, x_set0, x_setS, x_drop, x_cb, x_cons, x_nil, x_int1, x_abs1, x_max2, x_gcd, x_gsub, x_sl, x_part, x_nopart, x_int, x_call, x_lst, x_tup, x_not, x_and, x_or, x_andV, x_orV, x_notV, x_ifE, x_eqI, x_neI, x_eqB, x_neB, x_tbm, x_never, x_make, x_meth, x_isII, x_isIC, x_bool1, decide_eq_true_eq, Bool.false_eq_true, if_false, if_true, List.append_nil, List.nil_append, List.cons_append, x_ixT hd at0, x_ixT hd at1]
  have p60 : CPow 10 60 := pow_ok (by decide) (by decide) (by decide)
  have hb := low.pos
  have no : ¬ (t.natAbs < 10 ^ 60 ∧ b.natAbs < 10 ^ 60) → spNoNum C [.str y] H (fun x H1 => ∃ c, x = .bl c ∧ if c = true then rLenA [.ref e] H1 fun x H1 => spNoPol C PC BP [.str z, x] H1 Q E0 else Q (.bl false) H1) E0 := by
    intro h60
    refine ⟨y, rfl, ly, by rw [hy]; exact numOf_long hb h60, fun H1 s1 => ⟨true, rfl, ?_⟩⟩
    rw [if_pos rfl, x_lenT (s1 _ _ he), List.length_map]
    exact ⟨z, es, t, b, rfl, x, nl, ln, low, nz, tb, bb, hz, h60, fun H' _ => k H'⟩
  refine ⟨p60, ?_⟩
  by_cases h1 : t.natAbs < 10 ^ 60
  · rw [if_pos (lt60a.mpr h1)]
    refine ⟨p60, ?_⟩
    by_cases h2 : b.natAbs < 10 ^ 60
    · rw [if_pos (lt60b hb |>.mpr h2)]
      refine ⟨y, rfl, Nat.le_trans ly (by decide), ?_⟩
      rw [hy, numOf_written hb low.cop h1 h2]
      intro r1 H1 hr1 s1
      have hd1 := hd.same s1
      refine ⟨r1, d, t, b, rfl, hr1, hd1, true, rfl, ?_⟩
      rw [if_pos rfl, x_lenT (s1 _ _ he), List.length_map]
      refine ⟨z, es, t, b, rfl, x, nl, ln, low, nz, tb, bb, hz, ?_⟩
      rw [if_pos ⟨h1, h2⟩]
      intro q H2 hq s2
      obtain ⟨dx, l, u, v, w, f, hq0, hq'⟩ := id hq
      have hp2 := (hp.same s1).same s2
      obtain ⟨dx2, l2, u2, v2, w2, f2, hp0, hp'⟩ := id hp2
      exact ⟨q, p, _, _, _, _, rfl, rfl, hq0, hp0, q, p, es, t, b, rfl, hq, hp2, low, fun H3 _ => k H3⟩
    · rw [if_neg (fun h => h2 ((lt60b hb).mp h))]
      exact no fun h => h2 h.2
  · rw [if_neg (fun h => h1 (lt60a.mp h))]
    exact no fun h => h1 h.1
theorem law_mid {a P o e r d : Addr} {n : Int} {es : List Int} {t b : Int} {H : Hp} {Q : VK} {E : XK} (x : Exps es) (nl : letD es ≠ []) (ln : (letD es).length ≤ 1000) (low : Low t b) (nz : t ≠ 0) (tb : t.natAbs < 10 ^ 5400) (bb : b.natAbs < 10 ^ 5400)
    (he : ExpAt H e es) (hr : RatAt C H r t b) (hd : TupAt H d t b) (k : ∀ H', Q (.bl true) H') :
    t_law65_6 P0 K mg C Z D BN PC VA BP f_place E { nx := fun _ H' => Q .non H', rt := Q } [some (.ref a), some (.ref P), some (.ref o), some (.int n), some (.ref e), some (.ref r), some (.ref d), none, none, none] H := by
  have hb := low.pos
  have b17 := bd5400 tb
  have b18 := bd5400 bb
  unfold t_law65_6
  rw [x_seq]
  simp only [x_if, x_test, x_B, x_op, x_un, x_varS, x_var0, x_c, x_I0, x_I, x_U, x_bl, x_ret, x_next, x_eqS, x_neS, x_m0, x_m1, x_isStr, x_SM, x_addT, x_slS, x_lenS, x_strI, x_mulS, x_startT, x_findT, x_preT, x_lstT, x_ascT, x_digT, x_jn, x_js0, x_js1, x_isS, x_fmt, x_fmtS, x_divW, x_truK, x_truS, x_raiseT, x_asg, x_name, x_set0, x_setS, x_drop, x_cb, x_cons, x_nil, x_int1, x_abs1, x_max2, x_gcd, x_gsub, x_sl, x_part, x_nopart, x_int, x_call, x_lst, x_tup, x_not, x_and, x_or, x_andV, x_orV, x_notV, x_ifE, x_eqI, x_neI, x_eqB, x_neB, x_tbm, x_never, x_make, x_meth, x_isII, x_isIC, x_bool1, decide_eq_true_eq, Bool.false_eq_true, if_false, if_true, List.append_nil, List.nil_append, List.cons_append]
  refine ⟨d, t, b, rfl, hd, hb, tb, bb, fun y H1 hy s1 => ?_⟩
  have ly : y.length ≤ 20000 := by
    rw [tl_len, hy]
    refine Nat.le_trans (wr_len (k := 5400) (num_len (by decide) tb) (num_len (by decide) bb)) (by decide)
  have hr1 := hr.same s1
  have hd1 := hd.same s1
  have he1 : ExpAt H1 e es := s1 _ _ he
  obtain ⟨dx, hr0⟩ := id hr1
  try dsimp only
  rw [x_seq]
  simp only [x_if, x_test, x_B, x_op, x_un, x_varS, x_var0, x_c, x_I0, x_I, x_U, x_bl, x_ret, x_next, x_eqS, x_neS, x_m0, x_m1, x_isStr, x_SM, x_addT, x_slS, x_lenS, x_strI, x_mulS, x_startT, x_findT, x_preT, x_lstT, x_ascT, x_digT, x_jn, x_js0, x_js1, x_isS, x_fmt, x_fmtS, x_divW, x_truK, x_truS, x_raiseT, x_asg, x_name, x_set0, x_setS, x_drop, x_cb, x_cons, x_nil, x_int1, x_abs1, x_max2, x_gcd, x_gsub, x_sl, x_part, x_nopart, x_int, x_call, x_lst, x_tup, x_not, x_and, x_or, x_andV, x_orV, x_notV, x_ifE, x_eqI, x_neI, x_eqB, x_neB, x_tbm, x_never, x_make, x_meth, x_isII, x_isIC, x_bool1, decide_eq_true_eq, Bool.false_eq_true, if_false, if_true, List.append_nil, List.nil_append, List.cons_append]
  refine ⟨r, d, t, b, rfl, hr1, hd1, true, rfl, ?_⟩
  simp only [Bool.not_true, Bool.false_eq_true, if_false]
  rw [x_ownStr hr0]
  refine ⟨r, t, b, rfl, hr1, hb, b17, b18, fun y2 H2 hy2 s2 => ⟨y2, rfl, ?_⟩⟩
  simp only [x_neS]
  have e0 : (!decide (y2 = y)) = false := by rw [dec_str, hy2, hy, decide_eq_true rfl]; rfl
  have hr2 := hr1.same s2
  have hd2 := hd1.same s2
  have he2 : ExpAt H2 e es := s2 _ _ he1
  rw [e0]
  refine ⟨false, rfl, ?_⟩
  rw [if_neg (by decide), x_seq]
  simp only [x_if, x_test, x_B, x_op, x_un, x_varS, x_var0, x_c, x_I0, x_I, x_U, x_bl, x_ret, x_next, x_eqS, x_neS, x_m0, x_m1, x_isStr, x_SM, x_addT, x_slS, x_lenS, x_strI, x_mulS, x_startT, x_findT, x_preT, x_lstT, x_ascT, x_digT, x_jn, x_js0, x_js1, x_isS, x_fmt, x_fmtS, x_divW, x_truK, x_truS, x_raiseT, x_asg, x_name, x_set0, x_setS, x_drop, x_cb, x_cons, x_nil, x_int1, x_abs1, x_max2, x_gcd, x_gsub, x_sl, x_part, x_nopart, x_int, x_call, x_lst, x_tup, x_not, x_and, x_or, x_andV, x_orV, x_notV, x_ifE, x_eqI, x_neI, x_eqB, x_neB, x_tbm, x_never, x_make, x_meth, x_isII, x_isIC, x_bool1, decide_eq_true_eq, Bool.false_eq_true, if_false, if_true, List.append_nil, List.nil_append, List.cons_append]
  refine ⟨e, es, rfl, he2, x, fun m H3 hm s3 => ?_⟩
  have lm : m.length ≤ 20000 := by
    rw [tl_len, hm]
    omega
  refine ⟨y, m, rfl, ly, lm, fun z hz => ?_⟩
  rw [hy, hm, term_text hb] at hz
  have he3 : ExpAt H3 e es := s3 _ _ he2
  try dsimp only
  rw [x_seq, x_asg, x_makeN]
  simp only [x_cons, x_nil, x_cb, x_lst, x_tup, x_varS, x_var0, x_lenT he3, List.length_map]
  refine ⟨by show 2 ≤ sizeLine; decide, fun q hq => ?_⟩
  have eq : (upd H3 q (.tup [.ref e, .ref r])) q = some (.tup [.ref e, .ref r]) := upd_same
  have s4 : Same H3 (upd H3 q (.tup [.ref e, .ref r])) := Same.new hq
  generalize upd H3 q (.tup [.ref e, .ref r]) = H4 at eq s4 ⊢
  refine ⟨by show 1 ≤ sizeLine; decide, fun l hl => ?_⟩
  have el : (upd H4 l (.lst [.ref q])) l = some (.lst [.ref q]) := upd_same
  have s5 : Same H4 (upd H4 l (.lst [.ref q])) := Same.new hl
  generalize upd H4 l (.lst [.ref q]) = H5 at el s5 ⊢
  have s25 : Same H2 H5 := (s3.trans s4).trans s5
  refine ⟨rfl, rfl, fun p dp np nd ne => ?_⟩
  refine poly_of (Q := fun v H3 => gName 9 v _ H3 _) (t := t) (b := b) ⟨q, e, r, el, s5 _ _ eq, s25 _ _ he2, hr2.same s25⟩ x nz np nd ne fun H6 hp s6 => ?_
  simp only [x_name, x_set0, x_setS]
  obtain ⟨dy, lp, qp, ep, rp, fp, hp0, _⟩ := id hp
  rw [x_seq]
  simp only [x_if, x_test, x_B, x_op, x_un, x_varS, x_var0, x_c, x_I0, x_I, x_U, x_bl, x_ret, x_next, x_eqS, x_neS, x_m0, x_m1, x_isStr, x_SM, x_addT, x_slS, x_lenS, x_strI, x_mulS, x_startT, x_findT, x_preT, x_lstT, x_ascT, x_digT, x_jn, x_js0, x_js1, x_isS, x_fmt, x_fmtS, x_divW, x_truK, x_truS, x_raiseT, x_asg, x_name, x_set0, x_setS, x_drop, x_cb, x_cons, x_nil, x_int1, x_abs1, x_max2, x_gcd, x_gsub, x_sl, x_part, x_nopart, x_int, x_call, x_lst, x_tup, x_not, x_and, x_or, x_andV, x_orV, x_notV, x_ifE, x_eqI, x_neI, x_eqB, x_neB, x_tbm, x_never, x_make, x_meth, x_isII, x_isIC, x_bool1, decide_eq_true_eq, Bool.false_eq_true, if_false, if_true, List.append_nil, List.nil_append, List.cons_append]
  rw [x_ownStr hp0]
  refine ⟨p, es, t, b, rfl, hp, x, nl, ln, low, nz, b17, b18, fun z2 H7 hz2 s7 => ⟨z2, rfl, ?_⟩⟩
  simp only [x_neS]
  have e1 : (!decide (z2 = z)) = false := by rw [dec_str, hz2, hz, decide_eq_true rfl]; rfl
  rw [e1]
  refine ⟨false, rfl, ?_⟩
  rw [if_neg (by decide)]
  have s27 : Same H2 H7 := (s25.trans s6).trans s7
  exact law_end (P0 := P0) (K := K) (mg := mg) (Z := Z) (D := D) (VA := VA) (f_place := f_place) (E := E) x nl ln low nz tb bb (s27 _ _ he2) (hd2.same s27) hy hz (hp.same s7) k
theorem pure_law65 (vs : List V) (H : Hp) (Q : VK) (E : XK) (h : spLaw K vs H Q E) :
    t_law65 P0 K mg C Z D BN PC VA BP f_place E { nx := fun _ H' => Q .non H', rt := Q } (start ["script", "pool", "pair", "count", "exponents", "product", "due", "text", "long", "polynomial"] vs) H := by
  obtain ⟨a, sc, rfl, hS, hl, k⟩ := h
  show t_law65 P0 K mg C Z D BN PC VA BP f_place E _ [some (.ref a), none, none, none, none, none, none, none, none, none] H
  unfold t_law65
  rw [x_seq]
  simp only [x_if, x_test, x_B, x_op, x_un, x_varS, x_var0, x_c, x_I0, x_I, x_U, x_bl, x_ret, x_next, x_eqS, x_neS, x_m0, x_m1, x_isStr, x_SM, x_addT, x_slS, x_lenS, x_strI, x_mulS, x_startT, x_findT, x_preT, x_lstT, x_ascT, x_digT, x_jn, x_js0, x_js1, x_isS, x_fmt, x_fmtS, x_divW, x_truK, x_truS, x_raiseT, x_asg, x_name, x_set0, x_setS, x_drop, x_cb, x_cons, x_nil, x_int1, x_abs1, x_max2, x_gcd, x_gsub, x_sl, x_part, x_nopart, x_int, x_call, x_lst, x_tup, x_not, x_and, x_or, x_andV, x_orV, x_notV, x_ifE, x_eqI, x_neI, x_eqB, x_neB, x_tbm, x_never, x_make, x_meth, x_isII, x_isIC, x_bool1, decide_eq_true_eq, Bool.false_eq_true, if_false, if_true, List.append_nil, List.nil_append, List.cons_append]
  refine ⟨a, sc, rfl, hS, hl, fun P H1 hp1 _ => ?_⟩
  have hp1 := hp1.at
  try dsimp only
  rw [x_seq]
  simp only [x_if, x_test, x_B, x_op, x_un, x_varS, x_var0, x_c, x_I0, x_I, x_U, x_bl, x_ret, x_next, x_eqS, x_neS, x_m0, x_m1, x_isStr, x_SM, x_addT, x_slS, x_lenS, x_strI, x_mulS, x_startT, x_findT, x_preT, x_lstT, x_ascT, x_digT, x_jn, x_js0, x_js1, x_isS, x_fmt, x_fmtS, x_divW, x_truK, x_truS, x_raiseT, x_asg, x_name, x_set0, x_setS, x_drop, x_cb, x_cons, x_nil, x_int1, x_abs1, x_max2, x_gcd, x_gsub, x_sl, x_part, x_nopart, x_int, x_call, x_lst, x_tup, x_not, x_and, x_or, x_andV, x_orV, x_notV, x_ifE, x_eqI, x_neI, x_eqB, x_neB, x_tbm, x_never, x_make, x_meth, x_isII, x_isIC, x_bool1, decide_eq_true_eq, Bool.false_eq_true, if_false, if_true, List.append_nil, List.nil_append, List.cons_append]
  refine ⟨P, rfl, hp1, fun o H2 t b ho n6 hp2 k2 => ?_⟩
  try dsimp only
  rw [x_seq]
  simp only [x_if, x_test, x_B, x_op, x_un, x_varS, x_var0, x_c, x_I0, x_I, x_U, x_bl, x_ret, x_next, x_eqS, x_neS, x_m0, x_m1, x_isStr, x_SM, x_addT, x_slS, x_lenS, x_strI, x_mulS, x_startT, x_findT, x_preT, x_lstT, x_ascT, x_digT, x_jn, x_js0, x_js1, x_isS, x_fmt, x_fmtS, x_divW, x_truK, x_truS, x_raiseT, x_asg, x_name, x_set0, x_setS, x_drop, x_cb, x_cons, x_nil, x_int1, x_abs1, x_max2, x_gcd, x_gsub, x_sl, x_part, x_nopart, x_int, x_call, x_lst, x_tup, x_not, x_and, x_or, x_andV, x_orV, x_notV, x_ifE, x_eqI, x_neI, x_eqB, x_neB, x_tbm, x_never, x_make, x_meth, x_isII, x_isIC, x_bool1, decide_eq_true_eq, Bool.false_eq_true, if_false, if_true, List.append_nil, List.nil_append, List.cons_append]
  refine take_of (n := 31) hp2 (by decide) (.lit _ (by decide) (by decide) (by decide)) (by decide) fun r H3 hp3 k3 r0 r1 => ?_
  have ho3 := ho.keep hp2 k3
  simp only [x_I0]
  show t_law65_3 P0 K mg C Z D BN PC VA BP f_place E _ _ _
  unfold t_law65_3
  rw [x_seq]
  simp only [x_if, x_test, x_B, x_op, x_un, x_varS, x_var0, x_c, x_I0, x_I, x_U, x_bl, x_ret, x_next, x_eqS, x_neS, x_m0, x_m1, x_isStr, x_SM, x_addT, x_slS, x_lenS, x_strI, x_mulS, x_startT, x_findT, x_preT, x_lstT, x_ascT, x_digT, x_jn, x_js0, x_js1, x_isS, x_fmt, x_fmtS, x_divW, x_truK, x_truS, x_raiseT, x_asg, x_name, x_set0, x_setS, x_drop, x_cb, x_cons, x_nil, x_int1, x_abs1, x_max2, x_gcd, x_gsub, x_sl, x_part, x_nopart, x_int, x_call, x_lst, x_tup, x_not, x_and, x_or, x_andV, x_orV, x_notV, x_ifE, x_eqI, x_neI, x_eqB, x_neB, x_tbm, x_never, x_make, x_meth, x_isII, x_isIC, x_bool1, decide_eq_true_eq, Bool.false_eq_true, if_false, if_true, List.append_nil, List.nil_append, List.cons_append]
  refine ⟨P, rfl, hp3, fun e es H4 he x sm1 sm5 hp4 k4 => ?_⟩
  have ho4 := ho3.keep hp3 k4
  try dsimp only
  rw [x_seq]
  simp only [x_if, x_test, x_B, x_op, x_un, x_varS, x_var0, x_c, x_I0, x_I, x_U, x_bl, x_ret, x_next, x_eqS, x_neS, x_m0, x_m1, x_isStr, x_SM, x_addT, x_slS, x_lenS, x_strI, x_mulS, x_startT, x_findT, x_preT, x_lstT, x_ascT, x_digT, x_jn, x_js0, x_js1, x_isS, x_fmt, x_fmtS, x_divW, x_truK, x_truS, x_raiseT, x_asg, x_name, x_set0, x_setS, x_drop, x_cb, x_cons, x_nil, x_int1, x_abs1, x_max2, x_gcd, x_gsub, x_sl, x_part, x_nopart, x_int, x_call, x_lst, x_tup, x_not, x_and, x_or, x_andV, x_orV, x_notV, x_ifE, x_eqI, x_neI, x_eqB, x_neB, x_tbm, x_never, x_make, x_meth, x_isII, x_isIC, x_bool1, decide_eq_true_eq, Bool.false_eq_true, if_false, if_true, List.append_nil, List.nil_append, List.cons_append, x_ixT ho4 at0, x_ixT ho4 at1]
  rw [x_makeN]
  simp only [x_cons, x_nil, x_op, x_varS, x_var0, x_c, x_ixT ho4 at0, x_ixT ho4 at1]
  refine ⟨rfl, rfl, fun p1 dx1 np nd ne => ?_⟩
  have bd60 : ∀ {i : Int}, i.natAbs < 10 ^ 60 → Bd 8000 i := fun h => Nat.lt_of_lt_of_le h (Nat.le_trans (show 10 ^ 60 ≤ 2 ^ 200 by decide +kernel) (Nat.pow_le_pow_right (by decide) (by decide)))
  refine make_at (bd60 n6.t60) (bd60 n6.b60) (by have := n6.low.pos; omega) np nd ne fun H5 u c hr1 hn s5 => ?_
  obtain ⟨rfl, rfl⟩ := hn.low.same n6.low hn.eq
  have ho5 := ho4.same s5
  refine ⟨p1, u, c, 72 + r, rfl, hr1, n6, by omega, by omega, fun p2 H6 hr2 s6 => ?_⟩
  have ho6 := ho5.same s6
  have low := pow_low n6 (72 + r).toNat
  have tb := pow_lt n6.t60 (show (72 + r).toNat ≤ 90 by omega) (by omega)
  have bb := pow_lt n6.b60 (show (72 + r).toNat ≤ 90 by omega) (by omega)
  have nz : u ^ (72 + r).toNat ≠ 0 := pow_ne n6.nz _
  have he6 : ExpAt H6 e es := s6 _ _ (s5 _ _ he)
  generalize hT : u ^ (72 + r).toNat = T at hr2 low tb nz ⊢
  generalize hB : c ^ (72 + r).toNat = B at hr2 low bb ⊢
  try dsimp only
  rw [x_seq]
  simp only [x_if, x_test, x_B, x_op, x_un, x_varS, x_var0, x_c, x_I0, x_I, x_U, x_bl, x_ret, x_next, x_eqS, x_neS, x_m0, x_m1, x_isStr, x_SM, x_addT, x_slS, x_lenS, x_strI, x_mulS, x_startT, x_findT, x_preT, x_lstT, x_ascT, x_digT, x_jn, x_js0, x_js1, x_isS, x_fmt, x_fmtS, x_divW, x_truK, x_truS, x_raiseT, x_asg, x_name, x_set0, x_setS, x_drop, x_cb, x_cons, x_nil, x_int1, x_abs1, x_max2, x_gcd, x_gsub, x_sl, x_part, x_nopart, x_int, x_call, x_lst, x_tup, x_not, x_and, x_or, x_andV, x_orV, x_notV, x_ifE, x_eqI, x_neI, x_eqB, x_neB, x_tbm, x_never, x_make, x_meth, x_isII, x_isIC, x_bool1, decide_eq_true_eq, Bool.false_eq_true, if_false, if_true, List.append_nil, List.nil_append, List.cons_append]
  refine ⟨o, u, c, 72 + r, rfl, ho6, by omega, by omega, n6.t60, n6.b60, fun d H7 hd s7 => ?_⟩
  rw [hT, hB] at hd
  try dsimp only
  show t_law65_6 P0 K mg C Z D BN PC VA BP f_place E _ _ _
  exact law_mid x (letD_ne x sm1) (letD_len x) low nz tb bb (s7 _ _ he6) (hr2.same s7) hd k
end
end SpX

set_option Elab.async false
set_option linter.all false
set_option maxRecDepth 100000
set_option maxHeartbeats 4000000
namespace SpX
open PySem PySem.Spec L2 L2H StX RZ
def top (i : Nat) : Stmt := PySem.Challenge.pw_spotheights_k65_long_numbers_are_written.main.body.getD i (.Pass ⟨0, 0, 0, 0⟩)
abbrev s_pool : Stmt := top 47
theorem sc_pool : FnScope ["script", "greats", "smalls", "cell"] ["script"] (defScope s_pool) := ⟨rfl, rfl, rfl, by decide +kernel, rfl, by decide +kernel, by decide +kernel⟩
abbrev s_take : Stmt := top 48
theorem sc_take : FnScope ["pool", "most", "count", "seed", "mixed", "value", "rest"] ["pool", "most"] (defScope s_take) := ⟨rfl, rfl, rfl, by decide +kernel, rfl, by decide +kernel, by decide +kernel⟩
abbrev s_integer : Stmt := top 49
theorem sc_integer : FnScope ["thing"] ["thing"] (defScope s_integer) := ⟨rfl, rfl, rfl, by decide +kernel, rfl, by decide +kernel, by decide +kernel⟩
abbrev s_common : Stmt := top 50
theorem sc_common : FnScope ["one", "two", "k", "rest"] ["one", "two"] (defScope s_common) := ⟨rfl, rfl, rfl, by decide +kernel, rfl, by decide +kernel, by decide +kernel⟩
abbrev s_init : Stmt := inClass (top 16) 0
theorem sc_init : FnScope ["self", "top", "bottom", "common"] ["self", "top", "bottom"] (defScope s_init) := ⟨rfl, rfl, rfl, by decide +kernel, rfl, by decide +kernel, by decide +kernel⟩
abbrev s_mulw : Stmt := inClass (top 16) 5
theorem sc_mulw : FnScope ["self", "other"] ["self", "other"] (defScope s_mulw) := ⟨rfl, rfl, rfl, by decide +kernel, rfl, by decide +kernel, by decide +kernel⟩
abbrev s_rmulw : Stmt := inClass (top 16) 6
theorem sc_rmulw : FnScope ["self", "other"] ["self", "other"] (defScope s_rmulw) := ⟨rfl, rfl, rfl, by decide +kernel, rfl, by decide +kernel, by decide +kernel⟩
abbrev s_neg : Stmt := inClass (top 16) 7
theorem sc_neg : FnScope ["self"] ["self"] (defScope s_neg) := ⟨rfl, rfl, rfl, by decide +kernel, rfl, by decide +kernel, by decide +kernel⟩
abbrev s_absw : Stmt := inClass (top 16) 8
theorem sc_absw : FnScope ["self"] ["self"] (defScope s_absw) := ⟨rfl, rfl, rfl, by decide +kernel, rfl, by decide +kernel, by decide +kernel⟩
abbrev s_eq : Stmt := inClass (top 16) 9
theorem sc_eq : FnScope ["self", "other"] ["self", "other"] (defScope s_eq) := ⟨rfl, rfl, rfl, by decide +kernel, rfl, by decide +kernel, by decide +kernel⟩
abbrev s_bool : Stmt := inClass (top 16) 10
theorem sc_bool : FnScope ["self"] ["self"] (defScope s_bool) := ⟨rfl, rfl, rfl, by decide +kernel, rfl, by decide +kernel, by decide +kernel⟩
abbrev s_sign : Stmt := inClass (top 16) 13
theorem sc_sign : FnScope ["self"] ["self"] (defScope s_sign) := ⟨rfl, rfl, rfl, by decide +kernel, rfl, by decide +kernel, by decide +kernel⟩
abbrev s_npowers : Stmt := top 19
theorem sc_npowers : FnScope ["size", "power", "powers"] ["size"] (defScope s_npowers) := ⟨rfl, rfl, rfl, by decide +kernel, rfl, by decide +kernel, by decide +kernel⟩
abbrev s_nwint : Stmt := top 18
theorem sc_nwint : FnScope ["number", "blocks", "power", "digits", "block", "half"] ["number"] (defScope s_nwint) := ⟨rfl, rfl, rfl, by decide +kernel, rfl, by decide +kernel, by decide +kernel⟩
abbrev s_ncount : Stmt := top 20
theorem sc_ncount : FnScope ["text"] ["text"] (defScope s_ncount) := ⟨rfl, rfl, rfl, by decide +kernel, rfl, by decide +kernel, by decide +kernel⟩
abbrev s_nstr : Stmt := inClass (top 16) 11
theorem sc_nstr : FnScope ["self"] ["self"] (defScope s_nstr) := ⟨rfl, rfl, rfl, by decide +kernel, rfl, by decide +kernel, by decide +kernel⟩
abbrev s_bt : Stmt := inClass (top 9) 0
theorem sc_bt : SupScope ["self", "text"] ["self", "text"] (defScope s_bt) := ⟨rfl, rfl, rfl, by decide +kernel, rfl, by decide +kernel, by decide +kernel, by decide +kernel, rfl, rfl⟩
abbrev s_nread : Stmt := inClass (top 16) 14
theorem sc_nread : FnScope ["text", "size", "number", "top", "slash", "bottom"] ["text"] (defScope s_nread) := ⟨rfl, rfl, rfl, by decide +kernel, rfl, by decide +kernel, by decide +kernel⟩
abbrev s_total : Stmt := top 17
theorem sc_total : FnScope ["numbers", "sums", "pairs", "k"] ["numbers"] (defScope s_total) := ⟨rfl, rfl, rfl, by decide +kernel, rfl, by decide +kernel, by decide +kernel⟩
abbrev s_chk3 : Stmt := top 24
theorem sc_chk3 : FnScope ["dimension"] ["dimension"] (defScope s_chk3) := ⟨rfl, rfl, rfl, by decide +kernel, rfl, by decide +kernel, by decide +kernel⟩
abbrev s_chke3 : Stmt := top 25
theorem sc_chke3 : FnScope ["entries", "dimension"] ["entries", "dimension"] (defScope s_chke3) := ⟨rfl, rfl, rfl, by decide +kernel, rfl, by decide +kernel, by decide +kernel⟩
abbrev s_chkx : Stmt := top 28
theorem sc_chkx : FnScope ["exponents", "dimension"] ["exponents", "dimension"] (defScope s_chkx) := ⟨rfl, rfl, rfl, by decide +kernel, rfl, by decide +kernel, by decide +kernel⟩
abbrev s_place : Stmt := top 31
theorem sc_place : FnScope ["exponents", "exponent"] ["exponents"] (defScope s_place) := ⟨rfl, rfl, rfl, by decide +kernel, rfl, by decide +kernel, by decide +kernel⟩
abbrev s_pinit : Stmt := inClass (top 34) 0
theorem sc_pinit : FnScope ["self", "dimension", "terms", "found", "pairs", "exponents", "number", "place", "pair"] ["self", "dimension", "terms"] (defScope s_pinit) := ⟨rfl, rfl, rfl, by decide +kernel, rfl, by decide +kernel, by decide +kernel⟩
abbrev s_pterms : Stmt := inClass (top 34) 7
theorem sc_pterms : FnScope ["self"] ["self"] (defScope s_pterms) := ⟨rfl, rfl, rfl, by decide +kernel, rfl, by decide +kernel, by decide +kernel⟩
abbrev s_peq : Stmt := inClass (top 34) 21
theorem sc_peq : FnScope ["self", "other"] ["self", "other"] (defScope s_peq) := ⟨rfl, rfl, rfl, by decide +kernel, rfl, by decide +kernel, by decide +kernel⟩
abbrev s_pwmon : Stmt := top 39
theorem sc_pwmon : FnScope ["exponents", "powers", "name", "exponent"] ["exponents"] (defScope s_pwmon) := ⟨rfl, rfl, rfl, by decide +kernel, rfl, by decide +kernel, by decide +kernel⟩
abbrev s_pwsize : Stmt := top 38
theorem sc_pwsize : FnScope ["number", "monomial"] ["number", "monomial"] (defScope s_pwsize) := ⟨rfl, rfl, rfl, by decide +kernel, rfl, by decide +kernel, by decide +kernel⟩
abbrev s_ppieces : Stmt := top 37
theorem sc_ppieces : FnScope ["terms", "pieces", "exponents", "number", "negative"] ["terms"] (defScope s_ppieces) := ⟨rfl, rfl, rfl, by decide +kernel, rfl, by decide +kernel, by decide +kernel⟩
abbrev s_pstr : Stmt := inClass (top 34) 23
theorem sc_pstr : FnScope ["self"] ["self"] (defScope s_pstr) := ⟨rfl, rfl, rfl, by decide +kernel, rfl, by decide +kernel, by decide +kernel⟩
abbrev s_rpower : Stmt := top 45
theorem sc_rpower : FnScope ["word", "dimension", "name", "caret", "exponent"] ["word", "dimension"] (defScope s_rpower) := ⟨rfl, rfl, rfl, by decide +kernel, rfl, by decide +kernel, by decide +kernel⟩
abbrev s_rterm : Stmt := top 44
theorem sc_rterm : FnScope ["words", "sign", "dimension", "number", "powers", "exponents", "word", "index", "exponent"] ["words", "sign", "dimension"] (defScope s_rterm) := ⟨rfl, rfl, rfl, by decide +kernel, rfl, by decide +kernel, by decide +kernel⟩
abbrev s_rterms : Stmt := top 43
theorem sc_rterms : FnScope ["text", "dimension", "terms", "sign", "words", "word"] ["text", "dimension"] (defScope s_rterms) := ⟨rfl, rfl, rfl, by decide +kernel, rfl, by decide +kernel, by decide +kernel⟩
abbrev s_rpoly : Stmt := top 42
theorem sc_rpoly : FnScope ["text", "dimension", "found"] ["text", "dimension"] (defScope s_rpoly) := ⟨rfl, rfl, rfl, by decide +kernel, rfl, by decide +kernel, by decide +kernel⟩
abbrev s_lfig : Stmt := top 51
theorem sc_lfig : FnScope ["pool", "number", "k"] ["pool"] (defScope s_lfig) := ⟨rfl, rfl, rfl, by decide +kernel, rfl, by decide +kernel, by decide +kernel⟩
abbrev s_ldrawn : Stmt := top 52
theorem sc_ldrawn : FnScope ["pool", "top", "low", "kind", "common"] ["pool"] (defScope s_ldrawn) := ⟨rfl, rfl, rfl, by decide +kernel, rfl, by decide +kernel, by decide +kernel⟩
abbrev s_ltext : Stmt := top 53
theorem sc_ltext : FnScope ["number", "pieces", "left", "k"] ["number"] (defScope s_ltext) := ⟨rfl, rfl, rfl, by decide +kernel, rfl, by decide +kernel, by decide +kernel⟩
abbrev s_lwritten : Stmt := top 54
theorem sc_lwritten : FnScope ["pair", "text"] ["pair"] (defScope s_lwritten) := ⟨rfl, rfl, rfl, by decide +kernel, rfl, by decide +kernel, by decide +kernel⟩
abbrev s_lletters : Stmt := top 55
theorem sc_lletters : FnScope ["exponents", "words", "k"] ["exponents"] (defScope s_lletters) := ⟨rfl, rfl, rfl, by decide +kernel, rfl, by decide +kernel, by decide +kernel⟩
abbrev s_lexps : Stmt := top 56
theorem sc_lexps : FnScope ["pool", "found", "k", "at"] ["pool"] (defScope s_lexps) := ⟨rfl, rfl, rfl, by decide +kernel, rfl, by decide +kernel, by decide +kernel⟩
abbrev s_lpower : Stmt := top 59
theorem sc_lpower : FnScope ["number", "count", "found", "square", "left", "k"] ["number", "count"] (defScope s_lpower) := ⟨rfl, rfl, rfl, by decide +kernel, rfl, by decide +kernel, by decide +kernel⟩
abbrev s_ldue : Stmt := top 60
theorem sc_ldue : FnScope ["pair", "count", "found", "k"] ["pair", "count"] (defScope s_ldue) := ⟨rfl, rfl, rfl, by decide +kernel, rfl, by decide +kernel, by decide +kernel⟩
abbrev s_lis : Stmt := top 61
theorem sc_lis : FnScope ["told", "pair"] ["told", "pair"] (defScope s_lis) := ⟨rfl, rfl, rfl, by decide +kernel, rfl, by decide +kernel, by decide +kernel⟩
abbrev s_lterm : Stmt := top 62
theorem sc_lterm : FnScope ["text", "letters"] ["text", "letters"] (defScope s_lterm) := ⟨rfl, rfl, rfl, by decide +kernel, rfl, by decide +kernel, by decide +kernel⟩
abbrev s_nonum : Stmt := top 57
theorem sc_nonum : FnScope ["text", "right", "e"] ["text"] (defScope s_nonum) := ⟨rfl, rfl, rfl, by decide +kernel, rfl, by decide +kernel, by decide +kernel⟩
abbrev s_nopol : Stmt := top 58
theorem sc_nopol : FnScope ["text", "dimension", "right", "e"] ["text", "dimension"] (defScope s_nopol) := ⟨rfl, rfl, rfl, by decide +kernel, rfl, by decide +kernel, by decide +kernel⟩
abbrev s_law65 : Stmt := top 63
theorem sc_law65 : FnScope ["script", "pool", "pair", "count", "exponents", "product", "due", "text", "long", "polynomial"] ["script"] (defScope s_law65) := ⟨rfl, rfl, rfl, by decide +kernel, rfl, by decide +kernel, by decide +kernel⟩
structure Ad where
  C : Addr
  Z : Addr
  PC : Addr
  VA : Addr
  BN : Addr
  BP : Addr
  BT : Addr
  LA : Addr
  pr : Addr
  et : Addr
  ds : List Value
  f_pool : Addr
  d_pool : FuncData
  f_take : Addr
  d_take : FuncData
  f_integer : Addr
  d_integer : FuncData
  f_common : Addr
  d_common : FuncData
  f_init : Addr
  d_init : FuncData
  f_mulw : Addr
  d_mulw : FuncData
  f_rmulw : Addr
  d_rmulw : FuncData
  f_neg : Addr
  d_neg : FuncData
  f_absw : Addr
  d_absw : FuncData
  f_eq : Addr
  d_eq : FuncData
  f_bool : Addr
  d_bool : FuncData
  f_sign : Addr
  d_sign : FuncData
  f_npowers : Addr
  d_npowers : FuncData
  f_nwint : Addr
  d_nwint : FuncData
  f_ncount : Addr
  d_ncount : FuncData
  f_nstr : Addr
  d_nstr : FuncData
  f_bt : Addr
  d_bt : FuncData
  f_nread : Addr
  d_nread : FuncData
  f_total : Addr
  d_total : FuncData
  f_chk3 : Addr
  d_chk3 : FuncData
  f_chke3 : Addr
  d_chke3 : FuncData
  f_chkx : Addr
  d_chkx : FuncData
  f_place : Addr
  d_place : FuncData
  f_pinit : Addr
  d_pinit : FuncData
  f_pterms : Addr
  d_pterms : FuncData
  f_peq : Addr
  d_peq : FuncData
  f_pwmon : Addr
  d_pwmon : FuncData
  f_pwsize : Addr
  d_pwsize : FuncData
  f_ppieces : Addr
  d_ppieces : FuncData
  f_pstr : Addr
  d_pstr : FuncData
  f_rpower : Addr
  d_rpower : FuncData
  f_rterm : Addr
  d_rterm : FuncData
  f_rterms : Addr
  d_rterms : FuncData
  f_rpoly : Addr
  d_rpoly : FuncData
  f_lfig : Addr
  d_lfig : FuncData
  f_ldrawn : Addr
  d_ldrawn : FuncData
  f_ltext : Addr
  d_ltext : FuncData
  f_lwritten : Addr
  d_lwritten : FuncData
  f_lletters : Addr
  d_lletters : FuncData
  f_lexps : Addr
  d_lexps : FuncData
  f_lpower : Addr
  d_lpower : FuncData
  f_ldue : Addr
  d_ldue : FuncData
  f_lis : Addr
  d_lis : FuncData
  f_lterm : Addr
  d_lterm : FuncData
  f_nonum : Addr
  d_nonum : FuncData
  f_nopol : Addr
  d_nopol : FuncData
  f_law65 : Addr
  d_law65 : FuncData
/-- what the top has written -/
structure Txt (P : Program) (K : PySem.W.Frag) (mg : Str → Option Value) (a : Ad) : Prop where
  isa_Ratio : IsaOk K a.C
  isa_Polynomial : IsaOk K a.PC
  na_top : NoAttr K a.C "top"
  na_bottom : NoAttr K a.C "bottom"
  na_dimension : NoAttr K a.PC "dimension"
  na__pairs : NoAttr K a.PC "_pairs"
  na__numbers : NoAttr K a.PC "_numbers"
  g_Ratio : mg "Ratio" = some (.ref a.C)
  g_Polynomial : mg "Polynomial" = some (.ref a.PC)
  mk_Ratio : Mk K a.C a.f_init
  mk_Polynomial : Mk K a.PC a.f_pinit
  v_init1 : Vals [.int 1] a.ds
  b_init1 : Binds K a.d_init ["self", "top", "bottom"] a.ds
  F_init : FunD K "__init__" "Ratio.__init__" (defArgs s_init) (defBody s_init) (defScope s_init) [.int 1] [] a.f_init a.d_init
  F_pinit : FunD K "__init__" "Polynomial.__init__" (defArgs s_pinit) (defBody s_pinit) (defScope s_pinit) [.ref a.et] [] a.f_pinit a.d_pinit
  kb_init : KBn K a.d_init ["self", "top", "bottom"] 2 ["bottom"] (fun us ws => us ++ ws) (fun vs zs => vs ++ zs)
  kb_pinit : KBn K a.d_pinit ["self", "dimension", "terms"] 2 ["terms"] (fun us ws => us ++ ws) (fun vs zs => vs ++ zs)
  fm_Ratio : PySem.W.findIn K (.ref a.C) "__format__" = some (some (.builtin "object.__format__"))
  g_gcd : mg "gcd" = some (.builtin "math.gcd")
  xZ : PySem.W.excIn K a.Z [.type "ValueError", .type "Exception", .type "BaseException", .type "object"] "ValueError.__new__" = true
  gZ : mg "ZeroDivisor" = some (.ref a.Z)
  kZ : PySem.W.keepIn K (.ref a.Z) = true
  bZ : PySem.W.subIn K (.ref a.Z) (.type "BaseException") = some true
  tZ : PySem.W.typeIn K (.ref a.Z) = some (.type "type")
  te_BN : TxtE P K mg a.BT a.BN a.f_bt
  te_BP : TxtE P K mg a.BT a.BP a.f_bt
  ti_bt : PySem.W.typeIn K (.ref a.f_bt) = some (.type "function")
  bt : ∃ (oc : Value) (od : Option Addr) (kV doc pm : Value) (an : Option Addr) (cda cc : Addr) (ct : Value) (osl : Array (Option Value)), K.lookup a.f_bt = some ⟨oc, od, .func a.d_bt, osl⟩ ∧
    a.d_bt = PySem.W.ksFn "__init__" "BadText.__init__" (defArgs s_bt) (defBody s_bt) (defScope s_bt) .none kV doc pm an (.ref cda) ct cc ∧ PySem.W.codeIn K (.ref cda) "BadText.__init__" = true ∧ SupF P K cda cc a.BT
  cr_Ratio : ClX.CRead K a.C (.type "type")
  sm_nread : SMet K a.C (.type "type") "read" a.pr a.f_nread
  exc : Ex1 K a.BN a.BT a.BP
  excP : Ex1 K a.BP a.BT a.BN
  xf : XfC K a.BN
  xfP : XfC K a.BP
  nt : PySem.W.findIn K (.ref a.BN) "text" = some none
  ntP : PySem.W.findIn K (.ref a.BP) "text" = some none
  hm : PySem.W.exmAny K (.ref a.BN) [.ref a.BN, .ref a.BP, .ref a.LA] = some true
  o_mulw : OwnOp K a.C .Mult a.f_mulw
  i_mulw : OwnInt K a.C .Mult
  o_rmulw : OwnRef K a.C .Mult a.f_rmulw
  o_eq : OwnEqF K a.C a.f_eq
  o_peq : OwnEqF K a.PC a.f_peq
  o_pstr : PySem.W.findIn K (.ref a.PC) "__str__" = some (some (.ref a.f_pstr))
  i_pstr : PySem.W.isFn K (.ref a.f_pstr) = true
  m_sign : Meth K a.C "sign" a.f_sign
  m_pterms : Meth K a.PC "terms" a.f_pterms
  c_VARIABLES : ∃ u, mg "VARIABLES" = some u ∧ RelV (.ref a.VA) u
  tv : ∀ H : Hp, SqT K H a.VA (names3.map V.str)
  ty : ∀ H : Hp, tyV K "tuple" (.ref a.VA) H
  c_LONGEST_READ : ∃ u, mg "LONGEST_READ" = some u ∧ RelV (.int 60) u
  c_BLOCK_DIGITS : ∃ u, mg "BLOCK_DIGITS" = some u ∧ RelV (.int 64) u
  c_BLOCK : ∃ u, mg "BLOCK" = some u ∧ RelV (.int (10 ^ 64)) u
  c_DIMENSIONS : ∃ u, mg "DIMENSIONS" = some u ∧ RelV (.int 3) u
  c_GREATEST_DEGREE : ∃ u, mg "GREATEST_DEGREE" = some u ∧ RelV (.int 16) u
  c_LONGEST_TEXT : ∃ u, mg "LONGEST_TEXT" = some u ∧ RelV (.int 135660) u
  g_BadNumber : mg "BadNumber" = some (.ref a.BN)
  g_BadPolynomial : mg "BadPolynomial" = some (.ref a.BP)
  g_BadText : mg "BadText" = some (.ref a.BT)
  g_TooLarge : mg "TooLarge" = some (.ref a.LA)
  n_len : mg "len" = none
  n_abs : mg "abs" = none
  n_int : mg "int" = none
  n_list : mg "list" = none
  n_tuple : mg "tuple" = none
  n_sum : mg "sum" = none
  n_bool : mg "bool" = none
  n_max : mg "max" = none
  n_min : mg "min" = none
  n_isinstance : mg "isinstance" = none
  n_range : mg "range" = none
  n_zip : mg "zip" = none
  n_sorted : mg "sorted" = none
  n_str : mg "str" = none
  n_divmod : mg "divmod" = none
  n_super : mg "super" = none
  o_neg : PySem.W.findIn K (.ref a.C) "__neg__" = some (some (.ref a.f_neg))
  i_neg : PySem.W.isFn K (.ref a.f_neg) = true
  o_nstr : PySem.W.findIn K (.ref a.C) "__str__" = some (some (.ref a.f_nstr))
  i_nstr : PySem.W.isFn K (.ref a.f_nstr) = true
  o_absw : PySem.W.findIn K (.ref a.C) "__abs__" = some (some (.ref a.f_absw))
  i_absw : PySem.W.isFn K (.ref a.f_absw) = true
  o_bool : PySem.W.findIn K (.ref a.C) "__bool__" = some (some (.ref a.f_bool))
  i_bool : PySem.W.isFn K (.ref a.f_bool) = true
  F_pool : Fun K "_law_pool" "_law_pool" s_pool a.f_pool a.d_pool
  b_pool : Binds K a.d_pool ["script"] []
  g_pool : mg "_law_pool" = some (.ref a.f_pool)
  k_pool : PySem.W.keepIn K (.ref a.f_pool) = true
  F_take : Fun K "_law_take" "_law_take" s_take a.f_take a.d_take
  b_take : Binds K a.d_take ["pool", "most"] []
  g_take : mg "_law_take" = some (.ref a.f_take)
  k_take : PySem.W.keepIn K (.ref a.f_take) = true
  F_integer : Fun K "_law_integer" "_law_integer" s_integer a.f_integer a.d_integer
  b_integer : Binds K a.d_integer ["thing"] []
  g_integer : mg "_law_integer" = some (.ref a.f_integer)
  k_integer : PySem.W.keepIn K (.ref a.f_integer) = true
  F_common : Fun K "_law_common" "_law_common" s_common a.f_common a.d_common
  b_common : Binds K a.d_common ["one", "two"] []
  g_common : mg "_law_common" = some (.ref a.f_common)
  k_common : PySem.W.keepIn K (.ref a.f_common) = true
  b_init : Binds K a.d_init ["self", "top", "bottom"] []
  F_mulw : Fun K "__mul__" "Ratio.__mul__" s_mulw a.f_mulw a.d_mulw
  b_mulw : Binds K a.d_mulw ["self", "other"] []
  F_rmulw : Fun K "__rmul__" "Ratio.__rmul__" s_rmulw a.f_rmulw a.d_rmulw
  b_rmulw : Binds K a.d_rmulw ["self", "other"] []
  F_neg : Fun K "__neg__" "Ratio.__neg__" s_neg a.f_neg a.d_neg
  b_neg : Binds K a.d_neg ["self"] []
  F_absw : Fun K "__abs__" "Ratio.__abs__" s_absw a.f_absw a.d_absw
  b_absw : Binds K a.d_absw ["self"] []
  F_eq : Fun K "__eq__" "Ratio.__eq__" s_eq a.f_eq a.d_eq
  b_eq : Binds K a.d_eq ["self", "other"] []
  F_bool : Fun K "__bool__" "Ratio.__bool__" s_bool a.f_bool a.d_bool
  b_bool : Binds K a.d_bool ["self"] []
  F_sign : Fun K "sign" "Ratio.sign" s_sign a.f_sign a.d_sign
  b_sign : Binds K a.d_sign ["self"] []
  F_npowers : Fun K "_block_powers" "_block_powers" s_npowers a.f_npowers a.d_npowers
  b_npowers : Binds K a.d_npowers ["size"] []
  g_npowers : mg "_block_powers" = some (.ref a.f_npowers)
  k_npowers : PySem.W.keepIn K (.ref a.f_npowers) = true
  F_nwint : Fun K "written_integer" "written_integer" s_nwint a.f_nwint a.d_nwint
  b_nwint : Binds K a.d_nwint ["number"] []
  g_nwint : mg "written_integer" = some (.ref a.f_nwint)
  k_nwint : PySem.W.keepIn K (.ref a.f_nwint) = true
  F_ncount : Fun K "_is_count" "_is_count" s_ncount a.f_ncount a.d_ncount
  b_ncount : Binds K a.d_ncount ["text"] []
  g_ncount : mg "_is_count" = some (.ref a.f_ncount)
  k_ncount : PySem.W.keepIn K (.ref a.f_ncount) = true
  F_nstr : Fun K "__str__" "Ratio.__str__" s_nstr a.f_nstr a.d_nstr
  b_nstr : Binds K a.d_nstr ["self"] []
  b_bt : Binds K a.d_bt ["self", "text"] []
  F_nread : Fun K "read" "Ratio.read" s_nread a.f_nread a.d_nread
  b_nread : Binds K a.d_nread ["text"] []
  F_total : Fun K "total" "total" s_total a.f_total a.d_total
  b_total : Binds K a.d_total ["numbers"] []
  g_total : mg "total" = some (.ref a.f_total)
  k_total : PySem.W.keepIn K (.ref a.f_total) = true
  F_chk3 : Fun K "check_dimension" "check_dimension" s_chk3 a.f_chk3 a.d_chk3
  b_chk3 : Binds K a.d_chk3 ["dimension"] []
  g_chk3 : mg "check_dimension" = some (.ref a.f_chk3)
  k_chk3 : PySem.W.keepIn K (.ref a.f_chk3) = true
  F_chke3 : Fun K "check_entries" "check_entries" s_chke3 a.f_chke3 a.d_chke3
  b_chke3 : Binds K a.d_chke3 ["entries", "dimension"] []
  g_chke3 : mg "check_entries" = some (.ref a.f_chke3)
  k_chke3 : PySem.W.keepIn K (.ref a.f_chke3) = true
  F_chkx : Fun K "check_exponents" "check_exponents" s_chkx a.f_chkx a.d_chkx
  b_chkx : Binds K a.d_chkx ["exponents", "dimension"] []
  g_chkx : mg "check_exponents" = some (.ref a.f_chkx)
  k_chkx : PySem.W.keepIn K (.ref a.f_chkx) = true
  F_place : Fun K "standard_place" "standard_place" s_place a.f_place a.d_place
  b_place : Binds K a.d_place ["exponents"] []
  g_place : mg "standard_place" = some (.ref a.f_place)
  k_place : PySem.W.keepIn K (.ref a.f_place) = true
  b_pinit : Binds K a.d_pinit ["self", "dimension", "terms"] []
  F_pterms : Fun K "terms" "Polynomial.terms" s_pterms a.f_pterms a.d_pterms
  b_pterms : Binds K a.d_pterms ["self"] []
  F_peq : Fun K "__eq__" "Polynomial.__eq__" s_peq a.f_peq a.d_peq
  b_peq : Binds K a.d_peq ["self", "other"] []
  F_pwmon : Fun K "_written_monomial" "_written_monomial" s_pwmon a.f_pwmon a.d_pwmon
  b_pwmon : Binds K a.d_pwmon ["exponents"] []
  g_pwmon : mg "_written_monomial" = some (.ref a.f_pwmon)
  k_pwmon : PySem.W.keepIn K (.ref a.f_pwmon) = true
  F_pwsize : Fun K "_written_size" "_written_size" s_pwsize a.f_pwsize a.d_pwsize
  b_pwsize : Binds K a.d_pwsize ["number", "monomial"] []
  g_pwsize : mg "_written_size" = some (.ref a.f_pwsize)
  k_pwsize : PySem.W.keepIn K (.ref a.f_pwsize) = true
  F_ppieces : Fun K "_written_pieces" "_written_pieces" s_ppieces a.f_ppieces a.d_ppieces
  b_ppieces : Binds K a.d_ppieces ["terms"] []
  g_ppieces : mg "_written_pieces" = some (.ref a.f_ppieces)
  k_ppieces : PySem.W.keepIn K (.ref a.f_ppieces) = true
  F_pstr : Fun K "__str__" "Polynomial.__str__" s_pstr a.f_pstr a.d_pstr
  b_pstr : Binds K a.d_pstr ["self"] []
  F_rpower : Fun K "_read_power" "_read_power" s_rpower a.f_rpower a.d_rpower
  b_rpower : Binds K a.d_rpower ["word", "dimension"] []
  g_rpower : mg "_read_power" = some (.ref a.f_rpower)
  k_rpower : PySem.W.keepIn K (.ref a.f_rpower) = true
  F_rterm : Fun K "_read_term" "_read_term" s_rterm a.f_rterm a.d_rterm
  b_rterm : Binds K a.d_rterm ["words", "sign", "dimension"] []
  g_rterm : mg "_read_term" = some (.ref a.f_rterm)
  k_rterm : PySem.W.keepIn K (.ref a.f_rterm) = true
  F_rterms : Fun K "_read_terms" "_read_terms" s_rterms a.f_rterms a.d_rterms
  b_rterms : Binds K a.d_rterms ["text", "dimension"] []
  g_rterms : mg "_read_terms" = some (.ref a.f_rterms)
  k_rterms : PySem.W.keepIn K (.ref a.f_rterms) = true
  F_rpoly : Fun K "read_polynomial" "read_polynomial" s_rpoly a.f_rpoly a.d_rpoly
  b_rpoly : Binds K a.d_rpoly ["text", "dimension"] []
  g_rpoly : mg "read_polynomial" = some (.ref a.f_rpoly)
  k_rpoly : PySem.W.keepIn K (.ref a.f_rpoly) = true
  F_lfig : Fun K "_law_figures" "_law_figures" s_lfig a.f_lfig a.d_lfig
  b_lfig : Binds K a.d_lfig ["pool"] []
  g_lfig : mg "_law_figures" = some (.ref a.f_lfig)
  k_lfig : PySem.W.keepIn K (.ref a.f_lfig) = true
  F_ldrawn : Fun K "_law_drawn" "_law_drawn" s_ldrawn a.f_ldrawn a.d_ldrawn
  b_ldrawn : Binds K a.d_ldrawn ["pool"] []
  g_ldrawn : mg "_law_drawn" = some (.ref a.f_ldrawn)
  k_ldrawn : PySem.W.keepIn K (.ref a.f_ldrawn) = true
  F_ltext : Fun K "_law_text" "_law_text" s_ltext a.f_ltext a.d_ltext
  b_ltext : Binds K a.d_ltext ["number"] []
  g_ltext : mg "_law_text" = some (.ref a.f_ltext)
  k_ltext : PySem.W.keepIn K (.ref a.f_ltext) = true
  F_lwritten : Fun K "_law_written" "_law_written" s_lwritten a.f_lwritten a.d_lwritten
  b_lwritten : Binds K a.d_lwritten ["pair"] []
  g_lwritten : mg "_law_written" = some (.ref a.f_lwritten)
  k_lwritten : PySem.W.keepIn K (.ref a.f_lwritten) = true
  F_lletters : Fun K "_law_letters" "_law_letters" s_lletters a.f_lletters a.d_lletters
  b_lletters : Binds K a.d_lletters ["exponents"] []
  g_lletters : mg "_law_letters" = some (.ref a.f_lletters)
  k_lletters : PySem.W.keepIn K (.ref a.f_lletters) = true
  F_lexps : Fun K "_law_exponents" "_law_exponents" s_lexps a.f_lexps a.d_lexps
  b_lexps : Binds K a.d_lexps ["pool"] []
  g_lexps : mg "_law_exponents" = some (.ref a.f_lexps)
  k_lexps : PySem.W.keepIn K (.ref a.f_lexps) = true
  F_lpower : Fun K "_law_power_of" "_law_power_of" s_lpower a.f_lpower a.d_lpower
  b_lpower : Binds K a.d_lpower ["number", "count"] []
  g_lpower : mg "_law_power_of" = some (.ref a.f_lpower)
  k_lpower : PySem.W.keepIn K (.ref a.f_lpower) = true
  F_ldue : Fun K "_law_due" "_law_due" s_ldue a.f_ldue a.d_ldue
  b_ldue : Binds K a.d_ldue ["pair", "count"] []
  g_ldue : mg "_law_due" = some (.ref a.f_ldue)
  k_ldue : PySem.W.keepIn K (.ref a.f_ldue) = true
  F_lis : Fun K "_law_is" "_law_is" s_lis a.f_lis a.d_lis
  b_lis : Binds K a.d_lis ["told", "pair"] []
  g_lis : mg "_law_is" = some (.ref a.f_lis)
  k_lis : PySem.W.keepIn K (.ref a.f_lis) = true
  F_lterm : Fun K "_law_term" "_law_term" s_lterm a.f_lterm a.d_lterm
  b_lterm : Binds K a.d_lterm ["text", "letters"] []
  g_lterm : mg "_law_term" = some (.ref a.f_lterm)
  k_lterm : PySem.W.keepIn K (.ref a.f_lterm) = true
  F_nonum : Fun K "_law_no_number" "_law_no_number" s_nonum a.f_nonum a.d_nonum
  b_nonum : Binds K a.d_nonum ["text"] []
  g_nonum : mg "_law_no_number" = some (.ref a.f_nonum)
  k_nonum : PySem.W.keepIn K (.ref a.f_nonum) = true
  F_nopol : Fun K "_law_no_polynomial" "_law_no_polynomial" s_nopol a.f_nopol a.d_nopol
  b_nopol : Binds K a.d_nopol ["text", "dimension"] []
  g_nopol : mg "_law_no_polynomial" = some (.ref a.f_nopol)
  k_nopol : PySem.W.keepIn K (.ref a.f_nopol) = true
  F_law65 : Fun K "law" "law" s_law65 a.f_law65 a.d_law65
  b_law65 : Binds K a.d_law65 ["script"] []
  g_law65 : mg "law" = some (.ref a.f_law65)
  k_law65 : PySem.W.keepIn K (.ref a.f_law65) = true
section
variable {P : Program} {w : World} {K : PySem.W.Frag} {mg : Str → Option Value} {base : Heap} {a : Ad}
theorem ok_pool (T : Txt P K mg a) : FnOk P w K mg base CX0 1 a.f_pool a.d_pool ["script"] (spPoolB K) := by
  refine T.F_pool.ok sc_pool (fun vs H Q E h => by first | (obtain ⟨rfl, _⟩ := h; rfl) | (obtain ⟨_, rfl, _⟩ := h; rfl) | (obtain ⟨_, _, rfl, _⟩ := h; rfl) | (obtain ⟨_, _, _, rfl, _⟩ := h; rfl) | (obtain ⟨_, _, _, _, rfl, _⟩ := h; rfl) | (obtain ⟨_, _, _, _, _, rfl, _⟩ := h; rfl) | (obtain ⟨_, _, _, _, _, _, rfl, _⟩ := h; rfl) | (obtain ⟨_, _, _, _, _, _, _, rfl, _⟩ := h; rfl) | (obtain ⟨_, _, _, _, _, _, _, _, rfl, _⟩ := h; rfl) | (obtain ⟨_, _, _, _, _, _, _, _, _, rfl, _⟩ := h; rfl)) (fun cdv A outer s H vs Q E hr h => ⟨t_pool K, ?_, pure_poolB vs H Q E h⟩)
  exact (pss_cons (ps_set (i := 1) sc_pool.nd rfl (.inl rfl) (pe_lst pa_nil))
      (pss_cons (ps_set (i := 2) sc_pool.nd rfl (.inl rfl) (pe_lst pa_nil))
      (pss_cons (ps_for PassesOwn.never rfl (pi_list (pv 0)) (pg_name (i := 3) sc_pool.nd rfl (.inl rfl)) (pss_one (ps_if (pt_cmpR op_ge (pe_callB call_abs (by rfl) T.n_abs (by decide +kernel) (pa_cons (pe_callTy call_int1 (by rfl) T.n_int (by decide +kernel) (pa_cons (pv 3) pa_nil)) pa_nil)) (pe_op op_pow pe_int pe_int) (nomark _)) (pss_one (ps_expr (pe_bm PySem.F.plainAttrs_list PySem.F.slot_list_append PySem.F.type_list_append mt_append (pv 1) (pa_cons (pe_callB call_abs (by rfl) T.n_abs (by decide +kernel) (pa_cons (pe_callTy call_int1 (by rfl) T.n_int (by decide +kernel) (pa_cons (pv 3) pa_nil)) pa_nil)) pa_nil)))) (pss_one (ps_expr (pe_bm PySem.F.plainAttrs_list PySem.F.slot_list_append PySem.F.type_list_append mt_append (pv 2) (pa_cons (pe_callB call_abs (by rfl) T.n_abs (by decide +kernel) (pa_cons (pe_callTy call_int1 (by rfl) T.n_int (by decide +kernel) (pa_cons (pv 3) pa_nil)) pa_nil)) pa_nil)))))))
      (pss_cons (ps_if (pt_cmpR op_eq (pe_callB call_lenA (by rfl) T.n_len boot_len (pa_cons (pv 2) pa_nil)) pe_int (nomark _)) (pss_one (ps_expr (pe_bm PySem.F.plainAttrs_list PySem.F.slot_list_append PySem.F.type_list_append mt_append (pv 2) (pa_cons (pe_callB call_lenA (by rfl) T.n_len boot_len (pa_cons (pv 1) pa_nil)) pa_nil)))) pss_nil)
      (pss_one (ps_ret (pe_lst (pa_cons (pv 1) (pa_cons (pv 2) (pa_cons pe_int pa_nil))))))))))
theorem ok_take (T : Txt P K mg a) : FnOk P w K mg base CX0 1 a.f_take a.d_take ["pool", "most"] spTakeB := by
  refine T.F_take.ok sc_take (fun vs H Q E h => by first | (obtain ⟨rfl, _⟩ := h; rfl) | (obtain ⟨_, rfl, _⟩ := h; rfl) | (obtain ⟨_, _, rfl, _⟩ := h; rfl) | (obtain ⟨_, _, _, rfl, _⟩ := h; rfl) | (obtain ⟨_, _, _, _, rfl, _⟩ := h; rfl) | (obtain ⟨_, _, _, _, _, rfl, _⟩ := h; rfl) | (obtain ⟨_, _, _, _, _, _, rfl, _⟩ := h; rfl) | (obtain ⟨_, _, _, _, _, _, _, rfl, _⟩ := h; rfl) | (obtain ⟨_, _, _, _, _, _, _, _, rfl, _⟩ := h; rfl) | (obtain ⟨_, _, _, _, _, _, _, _, _, rfl, _⟩ := h; rfl)) (fun cdv A outer s H vs Q E hr h => ⟨t_take K, ?_, pure_takeB vs H Q E h⟩)
  exact (pss_cons (ps_if (pt_cmpR op_lt (pv 1) pe_int (nomark _)) (pss_one (ps_ret pe_int)) pss_nil)
      (pss_cons (ps_if (pt_cmpR op_gt (pe_callB call_lenA (by rfl) T.n_len boot_len (pa_cons (pe_ix ix_1 (pv 0) pe_int (fun _ _ => rfl)) pa_nil)) pe_int (nomark _)) (pss_cons (ps_set (i := 5) sc_take.nd rfl (.inl rfl) (pe_ix ix_1 (pe_ix ix_1 (pv 0) pe_int (fun _ _ => rfl)) pe_int (fun _ _ => rfl)))
      (pss_cons (ps_set (i := 6) sc_take.nd rfl (.inl rfl) (pe_callTy call_listA (by rfl) T.n_list (by decide +kernel) (pa_cons (pe_slice sl_A (pe_ix ix_1 (pv 0) pe_int (fun _ _ => rfl)) (po_some pe_int) po_none) pa_nil)))
      (pss_cons (ps_if (pt_cmpR op_gt (pe_op op_fdivF (pv 5) (pv 1)) pe_int (nomark _)) (pss_one (ps_set (i := 6) sc_take.nd rfl (.inl rfl) (pe_op op_cat (pe_lst (pa_cons (pe_op op_fdivF (pv 5) (pv 1)) pa_nil)) (pv 6)))) pss_nil)
      (pss_cons (ps_asg (pv 6) (pg_sub (pv 0) pe_int set_list))
      (pss_one (ps_ret (pe_op op_mod (pe_callTy call_int1 (by rfl) T.n_int (by decide +kernel) (pa_cons (pv 5) pa_nil)) (pv 1)))))))) pss_nil)
      (pss_cons (ps_set (i := 2) sc_take.nd rfl (.inl rfl) (pe_ix ix_1 (pv 0) pe_int (fun _ _ => rfl)))
      (pss_cons (ps_asg (pe_op op_add (pv 2) pe_int) (pg_sub (pv 0) pe_int set_list))
      (pss_cons (ps_set (i := 3) sc_take.nd rfl (.inl rfl) (pe_ix ix_1 (pe_ix ix_1 (pv 0) pe_int (fun _ _ => rfl)) (pe_op op_mod (pe_callTy call_int1 (by rfl) T.n_int (by decide +kernel) (pa_cons (pe_op op_fdivF (pv 2) pe_int) pa_nil)) (pe_callB call_lenA (by rfl) T.n_len boot_len (pa_cons (pe_ix ix_1 (pv 0) pe_int (fun _ _ => rfl)) pa_nil))) (fun _ _ => rfl)))
      (pss_cons (ps_set (i := 4) sc_take.nd rfl (.inl rfl) (pe_op op_mod (pe_callTy call_int1 (by rfl) T.n_int (by decide +kernel) (pa_cons (pe_op op_add (pe_op op_add (pe_op op_mulI (pv 3) pe_int) (pe_op op_mulI (pv 2) pe_int)) pe_int) pa_nil)) pe_int))
      (pss_cons (ps_set (i := 4) sc_take.nd rfl (.inl rfl) (pe_op op_mod (pe_callTy call_int1 (by rfl) T.n_int (by decide +kernel) (pa_cons (pe_op op_add (pe_op op_add (pe_op op_mulI (pv 4) (pv 4)) (pe_op op_mulI (pv 2) pe_int)) pe_int) pa_nil)) pe_int))
      (pss_cons (ps_set (i := 4) sc_take.nd rfl (.inl rfl) (pe_op op_mod (pe_callTy call_int1 (by rfl) T.n_int (by decide +kernel) (pa_cons (pe_op op_add (pe_op op_add (pe_op op_mulI (pv 4) (pv 4)) (pv 3)) pe_int) pa_nil)) pe_int))
      (pss_one (ps_ret (pe_op op_mod (pe_callTy call_int1 (by rfl) T.n_int (by decide +kernel) (pa_cons (pe_op op_fdivF (pv 4) pe_int) pa_nil)) (pv 1))))))))))))
theorem ok_integer (T : Txt P K mg a) : FnOk P w K mg base CX0 1 a.f_integer a.d_integer ["thing"] spInteger := by
  refine T.F_integer.ok sc_integer (fun vs H Q E h => by first | (obtain ⟨rfl, _⟩ := h; rfl) | (obtain ⟨_, rfl, _⟩ := h; rfl) | (obtain ⟨_, _, rfl, _⟩ := h; rfl) | (obtain ⟨_, _, _, rfl, _⟩ := h; rfl) | (obtain ⟨_, _, _, _, rfl, _⟩ := h; rfl) | (obtain ⟨_, _, _, _, _, rfl, _⟩ := h; rfl) | (obtain ⟨_, _, _, _, _, _, rfl, _⟩ := h; rfl) | (obtain ⟨_, _, _, _, _, _, _, rfl, _⟩ := h; rfl) | (obtain ⟨_, _, _, _, _, _, _, _, rfl, _⟩ := h; rfl) | (obtain ⟨_, _, _, _, _, _, _, _, _, rfl, _⟩ := h; rfl)) (fun cdv A outer s H vs Q E hr h => ⟨t_integer K, ?_, pure_integer vs H Q E h⟩)
  exact (pss_one (ps_ret (pe_and (pe_callB call_isi (by rfl) T.n_isinstance (by decide +kernel) (pa_cons (pv 0) (pa_cons (pe_bltn (by rfl) T.n_int (by decide +kernel) rfl) pa_nil))) (pe_one (pe_not (pe_callB call_isi (by rfl) T.n_isinstance (by decide +kernel) (pa_cons (pv 0) (pa_cons (pe_bltn (by rfl) T.n_bool (by decide +kernel) rfl) pa_nil))))))))
theorem ok_common (T : Txt P K mg a) : FnOk P w K mg base CX0 1 a.f_common a.d_common ["one", "two"] spCommon := by
  refine T.F_common.ok sc_common (fun vs H Q E h => by first | (obtain ⟨rfl, _⟩ := h; rfl) | (obtain ⟨_, rfl, _⟩ := h; rfl) | (obtain ⟨_, _, rfl, _⟩ := h; rfl) | (obtain ⟨_, _, _, rfl, _⟩ := h; rfl) | (obtain ⟨_, _, _, _, rfl, _⟩ := h; rfl) | (obtain ⟨_, _, _, _, _, rfl, _⟩ := h; rfl) | (obtain ⟨_, _, _, _, _, _, rfl, _⟩ := h; rfl) | (obtain ⟨_, _, _, _, _, _, _, rfl, _⟩ := h; rfl) | (obtain ⟨_, _, _, _, _, _, _, _, rfl, _⟩ := h; rfl) | (obtain ⟨_, _, _, _, _, _, _, _, _, rfl, _⟩ := h; rfl)) (fun cdv A outer s H vs Q E hr h => ⟨t_common K, ?_, pure_common vs H Q E h⟩)
  exact (pss_cons (ps_set (i := 0) sc_common.nd rfl (.inl rfl) (pe_callB call_abs (by rfl) T.n_abs (by decide +kernel) (pa_cons (pv 0) pa_nil)))
      (pss_cons (ps_set (i := 1) sc_common.nd rfl (.inl rfl) (pe_callB call_abs (by rfl) T.n_abs (by decide +kernel) (pa_cons (pv 1) pa_nil)))
      (pss_cons (ps_for PassesOwn.never rfl (pi_range1 rfl T.n_range (pa_cons (pe_op op_add (pe_op op_mulI pe_int (pe_bits (pv 1))) pe_int) pa_nil)) (pg_name (i := 2) sc_common.nd rfl (.inl rfl)) (pss_cons (ps_if (pt_cmpR op_eq (pv 1) pe_int (nomark _)) (pss_one (ps_ret (pv 0))) pss_nil)
      (pss_cons (ps_set (i := 3) sc_common.nd rfl (.inl rfl) (pe_op op_mod (pe_callTy call_int1 (by rfl) T.n_int (by decide +kernel) (pa_cons (pv 0) pa_nil)) (pv 1)))
      (pss_cons (ps_set (i := 0) sc_common.nd rfl (.inl rfl) (pv 1))
      (pss_one (ps_set (i := 1) sc_common.nd rfl (.inl rfl) (pv 3)))))))
      (pss_one (ps_ret (pv 0))))))
theorem ok_init (T : Txt P K mg a) : FnOk P w K mg base (L2N.CX P w) 1 a.f_init a.d_init ["self", "top", "bottom"] (spInit a.C a.Z) := by
  refine T.F_init.ok sc_init (fun vs H Q E h => by first | (obtain ⟨rfl, _⟩ := h; rfl) | (obtain ⟨_, rfl, _⟩ := h; rfl) | (obtain ⟨_, _, rfl, _⟩ := h; rfl) | (obtain ⟨_, _, _, rfl, _⟩ := h; rfl) | (obtain ⟨_, _, _, _, rfl, _⟩ := h; rfl) | (obtain ⟨_, _, _, _, _, rfl, _⟩ := h; rfl) | (obtain ⟨_, _, _, _, _, _, rfl, _⟩ := h; rfl) | (obtain ⟨_, _, _, _, _, _, _, rfl, _⟩ := h; rfl) | (obtain ⟨_, _, _, _, _, _, _, _, rfl, _⟩ := h; rfl) | (obtain ⟨_, _, _, _, _, _, _, _, _, rfl, _⟩ := h; rfl)) (fun cdv A outer s H vs Q E hr h => ⟨t_init K a.C a.Z E, ?_, pure_init ⟨T.isa_Ratio.cl, T.na_top, T.na_bottom⟩ vs H Q E h⟩)
  exact (pss_cons (ps_if (pt_cmpR op_eq (pv 2) pe_int (nomark _)) (pss_one (L2N.ps_raise (W := fun cls d _ H => E cls d H) (t := fun _ H Q => Q (.ref a.Z) none H) rfl (L2N.takes_of rfl rfl rfl rfl) (L2N.pmk_own PySem.F.excBase_ValueError T.xZ T.gZ T.kZ (raises_own T.bZ T.tZ) rfl))) pss_nil)
      (pss_cons (ps_set (i := 3) sc_init.nd rfl (.inl rfl) (pe_callBfun cr_gcd (by rfl) T.g_gcd (pa_cons (pv 1) (pa_cons (pv 2) pa_nil))))
      (pss_cons (ps_if (pt_cmpR op_lt (pv 2) pe_int (nomark _)) (pss_one (ps_set (i := 3) sc_init.nd rfl (.inl rfl) (pe_un un_neg (pv 3)))) pss_nil)
      (pss_cons (ps_fld (pv 0) (pe_op op_fdivF (pv 1) (pv 3)) rfl)
      (pss_one (ps_fld (pv 0) (pe_op op_fdivF (pv 2) (pv 3)) rfl))))))
theorem ok_mulw (T : Txt P K mg a) : FnOk P w K mg base CX0 3 a.f_mulw a.d_mulw ["self", "other"] (spMulW a.C) := by
  have G_init := ok_init (P := P) (w := w) (base := base) T
  refine T.F_mulw.ok sc_mulw (fun vs H Q E h => by first | (obtain ⟨rfl, _⟩ := h; rfl) | (obtain ⟨_, rfl, _⟩ := h; rfl) | (obtain ⟨_, _, rfl, _⟩ := h; rfl) | (obtain ⟨_, _, _, rfl, _⟩ := h; rfl) | (obtain ⟨_, _, _, _, rfl, _⟩ := h; rfl) | (obtain ⟨_, _, _, _, _, rfl, _⟩ := h; rfl) | (obtain ⟨_, _, _, _, _, _, rfl, _⟩ := h; rfl) | (obtain ⟨_, _, _, _, _, _, _, rfl, _⟩ := h; rfl) | (obtain ⟨_, _, _, _, _, _, _, _, rfl, _⟩ := h; rfl) | (obtain ⟨_, _, _, _, _, _, _, _, _, rfl, _⟩ := h; rfl)) (fun cdv A outer s H vs Q E hr h => ⟨t_mulw P K mg a.C a.Z a.BT a.BN a.PC a.VA a.BP a.f_place E, ?_, pure_mulw vs H Q E h⟩)
  exact (pss_cons (ps_if (pt_val (pe_callB (call_isA T.isa_Ratio) (by rfl) T.n_isinstance (by decide +kernel) (pa_cons (pv 1) (pa_cons (pe_bltn (by rfl) T.n_int (by decide +kernel) rfl) pa_nil)))) (pss_one (ps_ret (pe_make T.mk_Ratio G_init (hr.mono (by decide)) rfl T.g_Ratio T.b_init .nil passLN (pa_cons (pe_op op_mulI (pe_fldA (pv 0) T.isa_Ratio.cl T.na_top rfl) (pv 1)) (pa_cons (pe_fldA (pv 0) T.isa_Ratio.cl T.na_bottom rfl) pa_nil))))) pss_nil)
      (pss_cons (ps_if (pt_not (pt_val (pe_callB (call_isA T.isa_Ratio) (by rfl) T.n_isinstance (by decide +kernel) (pa_cons (pv 1) (pa_cons (pe_glob rfl T.g_Ratio rfl) pa_nil))))) (pss_one ps_never) pss_nil)
      (pss_one (ps_ret (pe_make T.mk_Ratio G_init (hr.mono (by decide)) rfl T.g_Ratio T.b_init .nil passLN (pa_cons (pe_op op_mulI (pe_fldA (pv 0) T.isa_Ratio.cl T.na_top rfl) (pe_fldA (pv 1) T.isa_Ratio.cl T.na_top rfl)) (pa_cons (pe_op op_mulI (pe_fldA (pv 0) T.isa_Ratio.cl T.na_bottom rfl) (pe_fldA (pv 1) T.isa_Ratio.cl T.na_bottom rfl)) pa_nil)))))))
theorem ok_rmulw (T : Txt P K mg a) : FnOk P w K mg base CX0 4 a.f_rmulw a.d_rmulw ["self", "other"] (spRmulW a.C) := by
  have G_mulw := ok_mulw (P := P) (w := w) (base := base) T
  refine T.F_rmulw.ok sc_rmulw (fun vs H Q E h => by first | (obtain ⟨rfl, _⟩ := h; rfl) | (obtain ⟨_, rfl, _⟩ := h; rfl) | (obtain ⟨_, _, rfl, _⟩ := h; rfl) | (obtain ⟨_, _, _, rfl, _⟩ := h; rfl) | (obtain ⟨_, _, _, _, rfl, _⟩ := h; rfl) | (obtain ⟨_, _, _, _, _, rfl, _⟩ := h; rfl) | (obtain ⟨_, _, _, _, _, _, rfl, _⟩ := h; rfl) | (obtain ⟨_, _, _, _, _, _, _, rfl, _⟩ := h; rfl) | (obtain ⟨_, _, _, _, _, _, _, _, rfl, _⟩ := h; rfl) | (obtain ⟨_, _, _, _, _, _, _, _, _, rfl, _⟩ := h; rfl)) (fun cdv A outer s H vs Q E hr h => ⟨t_rmulw P K mg a.C a.Z a.BT a.BN a.PC a.VA a.BP a.f_place E, ?_, pure_rmulw vs H Q E h⟩)
  exact (pss_one (ps_ret (pe_op (op_ownI T.o_mulw T.i_mulw G_mulw (hr.mono (by decide)) T.b_mulw pass0) (pv 0) (pv 1))))
theorem ok_neg (T : Txt P K mg a) : FnOk P w K mg base CX0 3 a.f_neg a.d_neg ["self"] (spUn a.C (fun t => -t)) := by
  have G_init := ok_init (P := P) (w := w) (base := base) T
  refine T.F_neg.ok sc_neg (fun vs H Q E h => by first | (obtain ⟨rfl, _⟩ := h; rfl) | (obtain ⟨_, rfl, _⟩ := h; rfl) | (obtain ⟨_, _, rfl, _⟩ := h; rfl) | (obtain ⟨_, _, _, rfl, _⟩ := h; rfl) | (obtain ⟨_, _, _, _, rfl, _⟩ := h; rfl) | (obtain ⟨_, _, _, _, _, rfl, _⟩ := h; rfl) | (obtain ⟨_, _, _, _, _, _, rfl, _⟩ := h; rfl) | (obtain ⟨_, _, _, _, _, _, _, rfl, _⟩ := h; rfl) | (obtain ⟨_, _, _, _, _, _, _, _, rfl, _⟩ := h; rfl) | (obtain ⟨_, _, _, _, _, _, _, _, _, rfl, _⟩ := h; rfl)) (fun cdv A outer s H vs Q E hr h => ⟨t_neg K a.C a.Z E, ?_, pure_neg vs H Q E h⟩)
  exact (pss_one (ps_ret (pe_make T.mk_Ratio G_init (hr.mono (by decide)) rfl T.g_Ratio T.b_init .nil passLN (pa_cons (pe_un un_neg (pe_fldA (pv 0) T.isa_Ratio.cl T.na_top rfl)) (pa_cons (pe_fldA (pv 0) T.isa_Ratio.cl T.na_bottom rfl) pa_nil)))))
theorem ok_absw (T : Txt P K mg a) : FnOk P w K mg base CX0 3 a.f_absw a.d_absw ["self"] (spAbsW a.C) := by
  have G_init := ok_init (P := P) (w := w) (base := base) T
  refine T.F_absw.ok sc_absw (fun vs H Q E h => by first | (obtain ⟨rfl, _⟩ := h; rfl) | (obtain ⟨_, rfl, _⟩ := h; rfl) | (obtain ⟨_, _, rfl, _⟩ := h; rfl) | (obtain ⟨_, _, _, rfl, _⟩ := h; rfl) | (obtain ⟨_, _, _, _, rfl, _⟩ := h; rfl) | (obtain ⟨_, _, _, _, _, rfl, _⟩ := h; rfl) | (obtain ⟨_, _, _, _, _, _, rfl, _⟩ := h; rfl) | (obtain ⟨_, _, _, _, _, _, _, rfl, _⟩ := h; rfl) | (obtain ⟨_, _, _, _, _, _, _, _, rfl, _⟩ := h; rfl) | (obtain ⟨_, _, _, _, _, _, _, _, _, rfl, _⟩ := h; rfl)) (fun cdv A outer s H vs Q E hr h => ⟨t_absw P K mg a.C a.Z a.BT a.BN a.PC a.VA a.BP a.f_place E, ?_, pure_absw vs H Q E h⟩)
  exact (pss_one (ps_ret (pe_make T.mk_Ratio G_init (hr.mono (by decide)) rfl T.g_Ratio T.b_init .nil passLN (pa_cons (pe_callB call_abs (by rfl) T.n_abs (by decide +kernel) (pa_cons (pe_fldA (pv 0) T.isa_Ratio.cl T.na_top rfl) pa_nil)) (pa_cons (pe_fldA (pv 0) T.isa_Ratio.cl T.na_bottom rfl) pa_nil)))))
theorem ok_eq (T : Txt P K mg a) : FnOk P w K mg base CX0 1 a.f_eq a.d_eq ["self", "other"] (spEq a.C) := by
  refine T.F_eq.ok sc_eq (fun vs H Q E h => by first | (obtain ⟨rfl, _⟩ := h; rfl) | (obtain ⟨_, rfl, _⟩ := h; rfl) | (obtain ⟨_, _, rfl, _⟩ := h; rfl) | (obtain ⟨_, _, _, rfl, _⟩ := h; rfl) | (obtain ⟨_, _, _, _, rfl, _⟩ := h; rfl) | (obtain ⟨_, _, _, _, _, rfl, _⟩ := h; rfl) | (obtain ⟨_, _, _, _, _, _, rfl, _⟩ := h; rfl) | (obtain ⟨_, _, _, _, _, _, _, rfl, _⟩ := h; rfl) | (obtain ⟨_, _, _, _, _, _, _, _, rfl, _⟩ := h; rfl) | (obtain ⟨_, _, _, _, _, _, _, _, _, rfl, _⟩ := h; rfl)) (fun cdv A outer s H vs Q E hr h => ⟨t_eq K a.C a.Z E, ?_, pure_eq vs H Q E h⟩)
  exact (pss_cons (ps_if (pt_val (pe_callB (call_isA T.isa_Ratio) (by rfl) T.n_isinstance (by decide +kernel) (pa_cons (pv 1) (pa_cons (pe_bltn (by rfl) T.n_int (by decide +kernel) rfl) pa_nil)))) (pss_one (ps_ret (pe_and (pe_cmpR op_eq (pe_fldA (pv 0) T.isa_Ratio.cl T.na_bottom rfl) pe_int (nomark _)) (pe_one (pe_cmpR op_eq (pe_fldA (pv 0) T.isa_Ratio.cl T.na_top rfl) (pv 1) (nomark _)))))) pss_nil)
      (pss_one (ps_ret (pe_and (pe_callB (call_isA T.isa_Ratio) (by rfl) T.n_isinstance (by decide +kernel) (pa_cons (pv 1) (pa_cons (pe_glob rfl T.g_Ratio rfl) pa_nil))) (pe_and (pe_cmpR op_eq (pe_fldA (pv 0) T.isa_Ratio.cl T.na_top rfl) (pe_fldA (pv 1) T.isa_Ratio.cl T.na_top rfl) (nomark _)) (pe_one (pe_cmpR op_eq (pe_fldA (pv 0) T.isa_Ratio.cl T.na_bottom rfl) (pe_fldA (pv 1) T.isa_Ratio.cl T.na_bottom rfl) (nomark _))))))))
theorem ok_bool (T : Txt P K mg a) : FnOk P w K mg base CX0 1 a.f_bool a.d_bool ["self"] (spBool a.C) := by
  refine T.F_bool.ok sc_bool (fun vs H Q E h => by first | (obtain ⟨rfl, _⟩ := h; rfl) | (obtain ⟨_, rfl, _⟩ := h; rfl) | (obtain ⟨_, _, rfl, _⟩ := h; rfl) | (obtain ⟨_, _, _, rfl, _⟩ := h; rfl) | (obtain ⟨_, _, _, _, rfl, _⟩ := h; rfl) | (obtain ⟨_, _, _, _, _, rfl, _⟩ := h; rfl) | (obtain ⟨_, _, _, _, _, _, rfl, _⟩ := h; rfl) | (obtain ⟨_, _, _, _, _, _, _, rfl, _⟩ := h; rfl) | (obtain ⟨_, _, _, _, _, _, _, _, rfl, _⟩ := h; rfl) | (obtain ⟨_, _, _, _, _, _, _, _, _, rfl, _⟩ := h; rfl)) (fun cdv A outer s H vs Q E hr h => ⟨t_bool K a.C a.Z E, ?_, pure_bool vs H Q E h⟩)
  exact (pss_one (ps_ret (pe_callTy call_bool1 (by rfl) T.n_bool (by decide +kernel) (pa_cons (pe_fldA (pv 0) T.isa_Ratio.cl T.na_top rfl) pa_nil))))
theorem ok_sign (T : Txt P K mg a) : FnOk P w K mg base CX0 1 a.f_sign a.d_sign ["self"] (spSign a.C) := by
  refine T.F_sign.ok sc_sign (fun vs H Q E h => by first | (obtain ⟨rfl, _⟩ := h; rfl) | (obtain ⟨_, rfl, _⟩ := h; rfl) | (obtain ⟨_, _, rfl, _⟩ := h; rfl) | (obtain ⟨_, _, _, rfl, _⟩ := h; rfl) | (obtain ⟨_, _, _, _, rfl, _⟩ := h; rfl) | (obtain ⟨_, _, _, _, _, rfl, _⟩ := h; rfl) | (obtain ⟨_, _, _, _, _, _, rfl, _⟩ := h; rfl) | (obtain ⟨_, _, _, _, _, _, _, rfl, _⟩ := h; rfl) | (obtain ⟨_, _, _, _, _, _, _, _, rfl, _⟩ := h; rfl) | (obtain ⟨_, _, _, _, _, _, _, _, _, rfl, _⟩ := h; rfl)) (fun cdv A outer s H vs Q E hr h => ⟨t_sign K a.C a.Z E, ?_, pure_sign vs H Q E h⟩)
  exact (pss_cons (ps_if (pt_cmpR op_lt (pe_fldA (pv 0) T.isa_Ratio.cl T.na_top rfl) pe_int (nomark _)) (pss_one (ps_ret (pe_un un_neg pe_int))) pss_nil)
      (pss_one (ps_ret (pe_ifExp (pt_cmpR op_gt (pe_fldA (pv 0) T.isa_Ratio.cl T.na_top rfl) pe_int (nomark _)) pe_int pe_int))))
theorem ok_npowers (T : Txt P K mg a) : FnOk P w K mg base CX0 1 a.f_npowers a.d_npowers ["size"] spPowers := by
  refine T.F_npowers.ok sc_npowers (fun vs H Q E h => by first | (obtain ⟨rfl, _⟩ := h; rfl) | (obtain ⟨_, rfl, _⟩ := h; rfl) | (obtain ⟨_, _, rfl, _⟩ := h; rfl) | (obtain ⟨_, _, _, rfl, _⟩ := h; rfl) | (obtain ⟨_, _, _, _, rfl, _⟩ := h; rfl) | (obtain ⟨_, _, _, _, _, rfl, _⟩ := h; rfl) | (obtain ⟨_, _, _, _, _, _, rfl, _⟩ := h; rfl) | (obtain ⟨_, _, _, _, _, _, _, rfl, _⟩ := h; rfl) | (obtain ⟨_, _, _, _, _, _, _, _, rfl, _⟩ := h; rfl) | (obtain ⟨_, _, _, _, _, _, _, _, _, rfl, _⟩ := h; rfl)) (fun cdv A outer s H vs Q E hr h => ⟨t_npowers P K mg a.C a.Z a.BT a.BN E, ?_, pure_npowers vs H Q E h⟩)
  exact (pss_cons (ps_set (i := 1) sc_npowers.nd rfl (.inl rfl) (pe_gc rfl T.c_BLOCK))
      (pss_cons (ps_set (i := 2) sc_npowers.nd rfl (.inl rfl) (pe_lst pa_nil))
      (pss_cons (ps_while PassesOwn.never (pt_cmpR op_le (pv 1) (pv 0) (nomark _)) (pss_cons (ps_expr (pe_bm PySem.F.plainAttrs_list PySem.F.slot_list_append PySem.F.type_list_append mt_append (pv 2) (pa_cons (pv 1) pa_nil)))
      (pss_one (ps_set (i := 1) sc_npowers.nd rfl (.inl rfl) (pe_op op_mulI (pv 1) (pv 1))))))
      (pss_one (ps_ret (pv 2))))))
theorem ok_nwint (T : Txt P K mg a) : FnOk P w K mg base CX0 2 a.f_nwint a.d_nwint ["number"] spWint := by
  have G_npowers := ok_npowers (P := P) (w := w) (base := base) T
  refine T.F_nwint.ok sc_nwint (fun vs H Q E h => by first | (obtain ⟨rfl, _⟩ := h; rfl) | (obtain ⟨_, rfl, _⟩ := h; rfl) | (obtain ⟨_, _, rfl, _⟩ := h; rfl) | (obtain ⟨_, _, _, rfl, _⟩ := h; rfl) | (obtain ⟨_, _, _, _, rfl, _⟩ := h; rfl) | (obtain ⟨_, _, _, _, _, rfl, _⟩ := h; rfl) | (obtain ⟨_, _, _, _, _, _, rfl, _⟩ := h; rfl) | (obtain ⟨_, _, _, _, _, _, _, rfl, _⟩ := h; rfl) | (obtain ⟨_, _, _, _, _, _, _, _, rfl, _⟩ := h; rfl) | (obtain ⟨_, _, _, _, _, _, _, _, _, rfl, _⟩ := h; rfl)) (fun cdv A outer s H vs Q E hr h => ⟨t_nwint P K mg a.C a.Z a.BT a.BN E, ?_, pure_nwint vs H Q E h⟩)
  exact (pss_cons (ps_if (pt_cmpR op_lt (pe_callB call_abs (by rfl) T.n_abs (by decide +kernel) (pa_cons (pv 0) pa_nil)) (pe_gc rfl T.c_BLOCK) (nomark _)) (pss_one (ps_ret (pe_callTy call_strI (by rfl) T.n_str (by decide +kernel) (pa_cons (pv 0) pa_nil)))) pss_nil)
      (pss_cons (ps_set (i := 1) sc_nwint.nd rfl (.inl rfl) (pe_lst (pa_cons (pe_callB call_abs (by rfl) T.n_abs (by decide +kernel) (pa_cons (pv 0) pa_nil)) pa_nil)))
      (pss_cons (ps_for PassesOwn.never rfl (pi_list (pe_revL (pe_call G_npowers (hr.mono (by decide)) rfl T.g_npowers T.k_npowers T.b_npowers .nil pass0 (pa_cons (pe_callB call_abs (by rfl) T.n_abs (by decide +kernel) (pa_cons (pv 0) pa_nil)) pa_nil)))) (pg_name (i := 2) sc_nwint.nd rfl (.inr rfl)) (pss_one (ps_setLc2 (i := 1) (own := [("block", 4), ("half", 5)]) (vs1 := [5]) (g := (gName 4)) (g1 := (gName 5)) (tt := tYes) (tt1 := tYes) (by rfl) sc_nwint.nd rfl rfl (sw_true rfl rfl rfl (by decide +kernel)) (pi_list (pv 1)) (blkOk_by (own := [("block", 4), ("half", 5)]) (N := ["number", "blocks", "power", "digits", "block", "half"]) (sc := defScope s_nwint) (by decide +kernel)) (by decide) (fun _ _ _ _ _ => (pg_name (i := 4) sc_nwint.nd rfl (.inl rfl))) (fun _ _ _ _ _ => pts_nil) (fun _ _ _ _ _ => (pi_tup (pe_callB call_divmodW (by rfl) T.n_divmod (by decide +kernel) (pa_cons (pv 4) (pa_cons (pv 2) pa_nil))))) (fun _ _ _ _ _ => (pg_name (i := 5) sc_nwint.nd rfl (.inl rfl))) (fun _ _ _ _ _ => pts_nil) (fun _ _ _ _ _ => (pv 5)))))
      (pss_cons (ps_set (i := 3) sc_nwint.nd rfl (.inl rfl) (pe_m1 PySem.F.slot_str_lstrip PySem.F.type_str_lstrip mt_lstT (pe_m1 PySem.F.slot_str_join PySem.F.type_str_join mt_joinT pe_str (pe_lc (own := [("block", 4)]) (g := (gName 4)) (tt := tYes) (by rfl) sc_nwint.nd (pi_list (pv 1)) (blkOk_by (own := [("block", 4)]) (N := ["number", "blocks", "power", "digits", "block", "half"]) (sc := defScope s_nwint) (by decide +kernel)) (fun _ _ _ _ _ => (pg_name (i := 4) sc_nwint.nd rfl (.inl rfl))) (fun _ _ _ _ _ => pts_nil) (fun _ _ _ _ _ => (pe_m1 PySem.F.slot_str_zfill PySem.F.type_str_zfill mt_zfT (pe_callTy call_strI (by rfl) T.n_str (by decide +kernel) (pa_cons (pv 4) pa_nil)) (pe_gc rfl T.c_BLOCK_DIGITS))))) pe_str))
      (pss_one (ps_ret (pe_ifExp (pt_cmpR op_lt (pv 0) pe_int (nomark _)) (pe_joined (PJ.cons pe_str (PJ.cons (pe_fmt (pv 3)) PJ.nil))) (pv 3))))))))
theorem ok_ncount (T : Txt P K mg a) : FnOk P w K mg base CX0 1 a.f_ncount a.d_ncount ["text"] spCount := by
  refine T.F_ncount.ok sc_ncount (fun vs H Q E h => by first | (obtain ⟨rfl, _⟩ := h; rfl) | (obtain ⟨_, rfl, _⟩ := h; rfl) | (obtain ⟨_, _, rfl, _⟩ := h; rfl) | (obtain ⟨_, _, _, rfl, _⟩ := h; rfl) | (obtain ⟨_, _, _, _, rfl, _⟩ := h; rfl) | (obtain ⟨_, _, _, _, _, rfl, _⟩ := h; rfl) | (obtain ⟨_, _, _, _, _, _, rfl, _⟩ := h; rfl) | (obtain ⟨_, _, _, _, _, _, _, rfl, _⟩ := h; rfl) | (obtain ⟨_, _, _, _, _, _, _, _, rfl, _⟩ := h; rfl) | (obtain ⟨_, _, _, _, _, _, _, _, _, rfl, _⟩ := h; rfl)) (fun cdv A outer s H vs Q E hr h => ⟨t_ncount P K mg a.C a.Z a.BT a.BN E, ?_, pure_ncount vs H Q E h⟩)
  exact (pss_one (ps_ret (pe_and (pe_cmpR op_le (pe_callB call_lenT (by rfl) T.n_len boot_len (pa_cons (pv 0) pa_nil)) (pe_gc rfl T.c_LONGEST_READ) (nomark _)) (pe_and (pe_m0 PySem.F.slot_str_isascii PySem.F.type_str_isascii mt_ascT (pv 0)) (pe_one (pe_m0 PySem.F.slot_str_isdigit PySem.F.type_str_isdigit mt_digT (pv 0)))))))
theorem ok_nstr (T : Txt P K mg a) : FnOk P w K mg base CX0 3 a.f_nstr a.d_nstr ["self"] (spStr a.C) := by
  have G_nwint := ok_nwint (P := P) (w := w) (base := base) T
  refine T.F_nstr.ok sc_nstr (fun vs H Q E h => by first | (obtain ⟨rfl, _⟩ := h; rfl) | (obtain ⟨_, rfl, _⟩ := h; rfl) | (obtain ⟨_, _, rfl, _⟩ := h; rfl) | (obtain ⟨_, _, _, rfl, _⟩ := h; rfl) | (obtain ⟨_, _, _, _, rfl, _⟩ := h; rfl) | (obtain ⟨_, _, _, _, _, rfl, _⟩ := h; rfl) | (obtain ⟨_, _, _, _, _, _, rfl, _⟩ := h; rfl) | (obtain ⟨_, _, _, _, _, _, _, rfl, _⟩ := h; rfl) | (obtain ⟨_, _, _, _, _, _, _, _, rfl, _⟩ := h; rfl) | (obtain ⟨_, _, _, _, _, _, _, _, _, rfl, _⟩ := h; rfl)) (fun cdv A outer s H vs Q E hr h => ⟨t_nstr P K mg a.C a.Z a.BT a.BN E, ?_, pure_nstr vs H Q E h⟩)
  exact (pss_cons (ps_if (pt_cmpR op_eq (pe_fldA (pv 0) T.isa_Ratio.cl T.na_bottom rfl) pe_int (nomark _)) (pss_one (ps_ret (pe_joined1 (pe_fmt (pe_call G_nwint (hr.mono (by decide)) rfl T.g_nwint T.k_nwint T.b_nwint .nil pass0 (pa_cons (pe_fldA (pv 0) T.isa_Ratio.cl T.na_top rfl) pa_nil)))))) pss_nil)
      (pss_one (ps_ret (pe_joined (PJ.cons (pe_fmt (pe_call G_nwint (hr.mono (by decide)) rfl T.g_nwint T.k_nwint T.b_nwint .nil pass0 (pa_cons (pe_fldA (pv 0) T.isa_Ratio.cl T.na_top rfl) pa_nil))) (PJ.cons pe_str (PJ.cons (pe_fmt (pe_call G_nwint (hr.mono (by decide)) rfl T.g_nwint T.k_nwint T.b_nwint .nil pass0 (pa_cons (pe_fldA (pv 0) T.isa_Ratio.cl T.na_bottom rfl) pa_nil))) PJ.nil)))))))
theorem ok_bt (T : Txt P K mg a) : FnOk P w K mg base CX0 1 a.f_bt a.d_bt ["self", "text"] (spBT P K mg a.BT) := by
  obtain ⟨oc, od, kV, doc, pm, an, cda, cc, ct, osl, lk, hd, hc, F⟩ := T.bt
  rw [hd] at lk ⊢
  refine fn_sup (k := 0) lk hc sc_bt F rfl rfl rfl (by decide) (fun vs H Q E h => by first | (obtain ⟨rfl, _⟩ := h; rfl) | (obtain ⟨_, rfl, _⟩ := h; rfl) | (obtain ⟨_, _, rfl, _⟩ := h; rfl) | (obtain ⟨_, _, _, rfl, _⟩ := h; rfl) | (obtain ⟨_, _, _, _, rfl, _⟩ := h; rfl) | (obtain ⟨_, _, _, _, _, rfl, _⟩ := h; rfl) | (obtain ⟨_, _, _, _, _, _, rfl, _⟩ := h; rfl) | (obtain ⟨_, _, _, _, _, _, _, rfl, _⟩ := h; rfl) | (obtain ⟨_, _, _, _, _, _, _, _, rfl, _⟩ := h; rfl) | (obtain ⟨_, _, _, _, _, _, _, _, _, rfl, _⟩ := h; rfl)) (fun L => ⟨_, rfl⟩) (fun A outer s H vs Q E hr h => ?_)
  obtain ⟨a', C', h0, ea, sc, q⟩ := pure_bt vs H Q E h
  exact ⟨a', C', h0, ea, sc, _, pss_one (ps_ost (pv 0) (pv 1)), q⟩
theorem okH_bt (T : Txt P K mg a) : FnH P w K mg base CX0 1 a.f_bt a.d_bt ["self", "text"] (spBT P K mg a.BT) := by
  obtain ⟨oc, od, kV, doc, pm, an, cda, cc, ct, osl, lk, hd, hc, F⟩ := T.bt
  rw [hd] at lk ⊢
  refine fn_supH (k := 0) lk hc sc_bt F rfl rfl rfl (by decide) (fun vs H Q E h => by first | (obtain ⟨rfl, _⟩ := h; rfl) | (obtain ⟨_, rfl, _⟩ := h; rfl) | (obtain ⟨_, _, rfl, _⟩ := h; rfl) | (obtain ⟨_, _, _, rfl, _⟩ := h; rfl) | (obtain ⟨_, _, _, _, rfl, _⟩ := h; rfl) | (obtain ⟨_, _, _, _, _, rfl, _⟩ := h; rfl) | (obtain ⟨_, _, _, _, _, _, rfl, _⟩ := h; rfl) | (obtain ⟨_, _, _, _, _, _, _, rfl, _⟩ := h; rfl) | (obtain ⟨_, _, _, _, _, _, _, _, rfl, _⟩ := h; rfl) | (obtain ⟨_, _, _, _, _, _, _, _, _, rfl, _⟩ := h; rfl)) (fun L => ⟨_, rfl⟩) (fun A outer s H vs Q E p hr h => ?_)
  obtain ⟨a', C', h0, ea, sc, q⟩ := pure_bt vs H Q E h
  exact ⟨a', C', h0, ea, sc, _, pss_one (ps_ost (pv 0) (pv 1)), q⟩
theorem ok_nread (T : Txt P K mg a) : FnOk P w K mg base (L2N.CX P w) 6 a.f_nread a.d_nread ["text"] (spRead a.C a.BN) := by
  have G_bt := ok_bt (P := P) (w := w) (base := base) T
  have G_init := ok_init (P := P) (w := w) (base := base) T
  have G_ncount := ok_ncount (P := P) (w := w) (base := base) T
  have G_neg := ok_neg (P := P) (w := w) (base := base) T
  have G_nstr := ok_nstr (P := P) (w := w) (base := base) T
  refine T.F_nread.okN sc_nread (fun vs H Q E h => by first | (obtain ⟨rfl, _⟩ := h; rfl) | (obtain ⟨_, rfl, _⟩ := h; rfl) | (obtain ⟨_, _, rfl, _⟩ := h; rfl) | (obtain ⟨_, _, _, rfl, _⟩ := h; rfl) | (obtain ⟨_, _, _, _, rfl, _⟩ := h; rfl) | (obtain ⟨_, _, _, _, _, rfl, _⟩ := h; rfl) | (obtain ⟨_, _, _, _, _, _, rfl, _⟩ := h; rfl) | (obtain ⟨_, _, _, _, _, _, _, rfl, _⟩ := h; rfl) | (obtain ⟨_, _, _, _, _, _, _, _, rfl, _⟩ := h; rfl) | (obtain ⟨_, _, _, _, _, _, _, _, _, rfl, _⟩ := h; rfl)) (fun cdv A outer s H vs Q E hr h => ⟨t_nread P K mg a.C a.Z a.BT a.BN E, ?_, pure_nread T.te_BN vs H Q E h⟩)
  exact (pss_cons (ps_asg (pe_m1 PySem.F.slot_str_partition PySem.F.type_str_partition mt_parT (pe_m1 PySem.F.slot_str_removeprefix PySem.F.type_str_removeprefix mt_preT (pv 0) pe_str) pe_str) (pg_tup rfl (pgs_cons (pg_name (i := 3) sc_nread.nd rfl (.inl rfl)) (pgs_cons (pg_name (i := 4) sc_nread.nd rfl (.inl rfl)) (pgs_cons (pg_name (i := 5) sc_nread.nd rfl (.inl rfl)) pgs_nil)))))
      (pss_cons (ps_if (pt_not (pt_truth (pv 4) (by intro _; rfl))) (pss_one (ps_set (i := 5) sc_nread.nd rfl (.inl rfl) pe_str)) pss_nil)
      (pss_cons (ps_if (PW.pt (pw_or (pt_not (pt_val (pe_call G_ncount (hr.mono (by decide)) rfl T.g_ncount T.k_ncount T.b_ncount .nil pass0 (pa_cons (pv 3) pa_nil)))) (pw_or (pt_not (pt_val (pe_call G_ncount (hr.mono (by decide)) rfl T.g_ncount T.k_ncount T.b_ncount .nil pass0 (pa_cons (pv 5) pa_nil)))) (pw_or1 (pt_cmpR op_eq (pe_callTy call_intT (by rfl) T.n_int (by decide +kernel) (pa_cons (pv 5) pa_nil)) pe_int (nomark _)))))) (pss_one (ps_raiseTN (W := fun cls d _ H => E cls d H) rfl (L2N.takes_of rfl rfl rfl rfl) T.te_BN T.ti_bt G_bt (hr.mono (by decide)) T.b_bt rfl T.g_BadNumber (pv 0))) pss_nil)
      (pss_cons (ps_set (i := 1) sc_nread.nd rfl (.inl rfl) (pe_make T.mk_Ratio G_init (hr.mono (by decide)) rfl T.g_Ratio T.b_init .nil (L2N.passes_call (L2N.takes_of rfl rfl rfl rfl) (fun _ _ _ _ h => h)) (pa_cons (pe_callTy call_intT (by rfl) T.n_int (by decide +kernel) (pa_cons (pv 3) pa_nil)) (pa_cons (pe_callTy call_intT (by rfl) T.n_int (by decide +kernel) (pa_cons (pv 5) pa_nil)) pa_nil))))
      (pss_cons (ps_set (i := 2) sc_nread.nd rfl (.inl rfl) (pe_ifExp (pt_val (pe_m1 PySem.F.slot_str_startswith PySem.F.type_str_startswith mt_startT (pv 0) pe_str)) (pe_un (un_own T.o_neg T.i_neg G_neg (hr.mono (by decide)) T.b_neg pass0) (pv 1)) (pv 1)))
      (pss_cons (ps_if (pt_cmpR op_ne (pe_callTy (call_strOwn T.o_nstr T.i_nstr G_nstr (hr.mono (by decide)) T.b_nstr pass0) (by rfl) T.n_str (by decide +kernel) (pa_cons (pv 2) pa_nil)) (pv 0) (nomark _)) (pss_one (ps_raiseTN (W := fun cls d _ H => E cls d H) rfl (L2N.takes_of rfl rfl rfl rfl) T.te_BN T.ti_bt G_bt (hr.mono (by decide)) T.b_bt rfl T.g_BadNumber (pv 0))) pss_nil)
      (pss_one (ps_ret (pv 2)))))))))
theorem ok_total (T : Txt P K mg a) : FnOk P w K mg base CX0 3 a.f_total a.d_total ["numbers"] (spTotal1 a.C) := by
  have G_init := ok_init (P := P) (w := w) (base := base) T
  refine T.F_total.ok sc_total (fun vs H Q E h => by first | (obtain ⟨rfl, _⟩ := h; rfl) | (obtain ⟨_, rfl, _⟩ := h; rfl) | (obtain ⟨_, _, rfl, _⟩ := h; rfl) | (obtain ⟨_, _, _, rfl, _⟩ := h; rfl) | (obtain ⟨_, _, _, _, rfl, _⟩ := h; rfl) | (obtain ⟨_, _, _, _, _, rfl, _⟩ := h; rfl) | (obtain ⟨_, _, _, _, _, _, rfl, _⟩ := h; rfl) | (obtain ⟨_, _, _, _, _, _, _, rfl, _⟩ := h; rfl) | (obtain ⟨_, _, _, _, _, _, _, _, rfl, _⟩ := h; rfl) | (obtain ⟨_, _, _, _, _, _, _, _, _, rfl, _⟩ := h; rfl)) (fun cdv A outer s H vs Q E hr h => ⟨t_total P K mg a.C a.Z a.BT a.BN a.PC a.VA a.BP a.f_place E, ?_, pure_total vs H Q E h⟩)
  exact (pss_cons (ps_set (i := 1) sc_total.nd rfl (.inr rfl) (pe_callTy call_listA (by rfl) T.n_list (by decide +kernel) (pa_cons (pv 0) pa_nil)))
      (pss_cons (ps_while PassesOwn.never (pt_cmpR op_gt (pe_callB call_lenA (by rfl) T.n_len boot_len (pa_cons (pv 1) pa_nil)) pe_int (nomark _)) (pss_cons ps_never
      (pss_one ps_never)))
      (pss_one (ps_ret (pe_ifExp (pt_truth (pv 1) (by intro _; rfl)) (pe_ix ix_1 (pv 1) pe_int (fun _ _ => rfl)) (pe_make T.mk_Ratio G_init (hr.mono (by decide)) rfl T.g_Ratio T.b_init1 T.v_init1 passLN (pa_cons pe_int pa_nil)))))))
theorem ok_chk3 (T : Txt P K mg a) : FnOk P w K mg base CX0 1 a.f_chk3 a.d_chk3 ["dimension"] spChk3 := by
  refine T.F_chk3.ok sc_chk3 (fun vs H Q E h => by first | (obtain ⟨rfl, _⟩ := h; rfl) | (obtain ⟨_, rfl, _⟩ := h; rfl) | (obtain ⟨_, _, rfl, _⟩ := h; rfl) | (obtain ⟨_, _, _, rfl, _⟩ := h; rfl) | (obtain ⟨_, _, _, _, rfl, _⟩ := h; rfl) | (obtain ⟨_, _, _, _, _, rfl, _⟩ := h; rfl) | (obtain ⟨_, _, _, _, _, _, rfl, _⟩ := h; rfl) | (obtain ⟨_, _, _, _, _, _, _, rfl, _⟩ := h; rfl) | (obtain ⟨_, _, _, _, _, _, _, _, rfl, _⟩ := h; rfl) | (obtain ⟨_, _, _, _, _, _, _, _, _, rfl, _⟩ := h; rfl)) (fun cdv A outer s H vs Q E hr h => ⟨t_chk3 P K mg a.C a.Z a.BT a.BN a.PC a.VA a.BP a.f_place E, ?_, pure_chk3 vs H Q E h⟩)
  exact (pss_one (ps_if (PW.pt (pw_or (pt_cmpR op_lt (pv 0) pe_int (nomark _)) (pw_or1 (pt_cmpR op_gt (pv 0) (pe_gc rfl T.c_DIMENSIONS) (nomark _))))) (pss_one ps_never) pss_nil))
theorem ok_chke3 (T : Txt P K mg a) : FnOk P w K mg base CX0 1 a.f_chke3 a.d_chke3 ["entries", "dimension"] spChke3 := by
  refine T.F_chke3.ok sc_chke3 (fun vs H Q E h => by first | (obtain ⟨rfl, _⟩ := h; rfl) | (obtain ⟨_, rfl, _⟩ := h; rfl) | (obtain ⟨_, _, rfl, _⟩ := h; rfl) | (obtain ⟨_, _, _, rfl, _⟩ := h; rfl) | (obtain ⟨_, _, _, _, rfl, _⟩ := h; rfl) | (obtain ⟨_, _, _, _, _, rfl, _⟩ := h; rfl) | (obtain ⟨_, _, _, _, _, _, rfl, _⟩ := h; rfl) | (obtain ⟨_, _, _, _, _, _, _, rfl, _⟩ := h; rfl) | (obtain ⟨_, _, _, _, _, _, _, _, rfl, _⟩ := h; rfl) | (obtain ⟨_, _, _, _, _, _, _, _, _, rfl, _⟩ := h; rfl)) (fun cdv A outer s H vs Q E hr h => ⟨t_chke3 P K mg a.C a.Z a.BT a.BN a.PC a.VA a.BP a.f_place E, ?_, pure_chke3 vs H Q E h⟩)
  exact (pss_one (ps_if (pt_cmpR op_ne (pe_callB call_lenA (by rfl) T.n_len boot_len (pa_cons (pv 0) pa_nil)) (pv 1) (nomark _)) (pss_one ps_never) pss_nil))
theorem ok_chkx (T : Txt P K mg a) : FnOk P w K mg base CX0 2 a.f_chkx a.d_chkx ["exponents", "dimension"] spChkx := by
  have G_chke3 := ok_chke3 (P := P) (w := w) (base := base) T
  refine T.F_chkx.ok sc_chkx (fun vs H Q E h => by first | (obtain ⟨rfl, _⟩ := h; rfl) | (obtain ⟨_, rfl, _⟩ := h; rfl) | (obtain ⟨_, _, rfl, _⟩ := h; rfl) | (obtain ⟨_, _, _, rfl, _⟩ := h; rfl) | (obtain ⟨_, _, _, _, rfl, _⟩ := h; rfl) | (obtain ⟨_, _, _, _, _, rfl, _⟩ := h; rfl) | (obtain ⟨_, _, _, _, _, _, rfl, _⟩ := h; rfl) | (obtain ⟨_, _, _, _, _, _, _, rfl, _⟩ := h; rfl) | (obtain ⟨_, _, _, _, _, _, _, _, rfl, _⟩ := h; rfl) | (obtain ⟨_, _, _, _, _, _, _, _, _, rfl, _⟩ := h; rfl)) (fun cdv A outer s H vs Q E hr h => ⟨t_chkx P K mg a.C a.Z a.BT a.BN a.PC a.VA a.BP a.f_place E, ?_, pure_chkx vs H Q E h⟩)
  exact (pss_cons (ps_expr (pe_call G_chke3 (hr.mono (by decide)) rfl T.g_chke3 T.k_chke3 T.b_chke3 .nil pass0 (pa_cons (pv 0) (pa_cons (pv 1) pa_nil))))
      (pss_cons (ps_if (pt_cmpR op_lt (pe_callB (call_minT rfl hr.units2) (by rfl) T.n_min (by decide +kernel) (pa_cons (pv 0) pa_nil)) pe_int (nomark _)) (pss_one ps_never) pss_nil)
      (pss_one (ps_if (pt_cmpR op_gt (pe_callB (call_sumA rfl) (by rfl) T.n_sum (by decide +kernel) (pa_cons (pv 0) pa_nil)) (pe_gc rfl T.c_GREATEST_DEGREE) (nomark _)) (pss_one ps_never) pss_nil))))
theorem ok_place (T : Txt P K mg a) : FnOk P w K mg base CX0 1 a.f_place a.d_place ["exponents"] spPlace := by
  refine T.F_place.ok sc_place (fun vs H Q E h => by first | (obtain ⟨rfl, _⟩ := h; rfl) | (obtain ⟨_, rfl, _⟩ := h; rfl) | (obtain ⟨_, _, rfl, _⟩ := h; rfl) | (obtain ⟨_, _, _, rfl, _⟩ := h; rfl) | (obtain ⟨_, _, _, _, rfl, _⟩ := h; rfl) | (obtain ⟨_, _, _, _, _, rfl, _⟩ := h; rfl) | (obtain ⟨_, _, _, _, _, _, rfl, _⟩ := h; rfl) | (obtain ⟨_, _, _, _, _, _, _, rfl, _⟩ := h; rfl) | (obtain ⟨_, _, _, _, _, _, _, _, rfl, _⟩ := h; rfl) | (obtain ⟨_, _, _, _, _, _, _, _, _, rfl, _⟩ := h; rfl)) (fun cdv A outer s H vs Q E hr h => ⟨t_place P K mg a.C a.Z a.BT a.BN a.PC a.VA a.BP a.f_place E, ?_, pure_place vs H Q E h⟩)
  exact (pss_one (ps_ret (pe_tup (pa_cons (pe_callB (call_sumA rfl) (by rfl) T.n_sum (by decide +kernel) (pa_cons (pv 0) pa_nil)) (pa_star (pe_lc (own := [("exponent", 1)]) (g := (gName 1)) (tt := tYes) (by rfl) sc_place.nd (pi_tup (pv 0)) (blkOk_by (own := [("exponent", 1)]) (N := ["exponents", "exponent"]) (sc := defScope s_place) (by decide +kernel)) (fun _ _ _ _ _ => (pg_name (i := 1) sc_place.nd rfl (.inl rfl))) (fun _ _ _ _ _ => pts_nil) (fun _ _ _ _ _ => (pe_un un_neg (pv 1)))) pa_nil)))))
theorem ok_pinit (T : Txt P K mg a) : FnOk P w K mg base CX0 4 a.f_pinit a.d_pinit ["self", "dimension", "terms"] (spPInit a.C a.PC) := by
  have G_bool := ok_bool (P := P) (w := w) (base := base) T
  have G_chk3 := ok_chk3 (P := P) (w := w) (base := base) T
  have G_chkx := ok_chkx (P := P) (w := w) (base := base) T
  have G_place := ok_place (P := P) (w := w) (base := base) T
  have G_total := ok_total (P := P) (w := w) (base := base) T
  refine T.F_pinit.ok sc_pinit (fun vs H Q E h => by first | (obtain ⟨rfl, _⟩ := h; rfl) | (obtain ⟨_, rfl, _⟩ := h; rfl) | (obtain ⟨_, _, rfl, _⟩ := h; rfl) | (obtain ⟨_, _, _, rfl, _⟩ := h; rfl) | (obtain ⟨_, _, _, _, rfl, _⟩ := h; rfl) | (obtain ⟨_, _, _, _, _, rfl, _⟩ := h; rfl) | (obtain ⟨_, _, _, _, _, _, rfl, _⟩ := h; rfl) | (obtain ⟨_, _, _, _, _, _, _, rfl, _⟩ := h; rfl) | (obtain ⟨_, _, _, _, _, _, _, _, rfl, _⟩ := h; rfl) | (obtain ⟨_, _, _, _, _, _, _, _, _, rfl, _⟩ := h; rfl)) (fun cdv A outer s H vs Q E hr h => ⟨t_pinit P K mg a.C a.Z a.BT a.BN a.PC a.VA a.BP a.f_place E, ?_, pure_pinit ⟨T.isa_Polynomial.cl, T.na_dimension, T.na__pairs, T.na__numbers⟩ vs H Q E h⟩)
  exact (pss_cons (ps_expr (pe_call G_chk3 (hr.mono (by decide)) rfl T.g_chk3 T.k_chk3 T.b_chk3 .nil pass0 (pa_cons (pv 1) pa_nil)))
      (pss_cons (ps_set (i := 3) sc_pinit.nd rfl (.inr rfl) pe_dnewT)
      (pss_cons (ps_for (passes_of rfl) rfl (pi_list (pv 2)) (pg_tup rfl (pgs_cons (pg_name (i := 5) sc_pinit.nd rfl (.inl rfl)) (pgs_cons (pg_name (i := 6) sc_pinit.nd rfl (.inl rfl)) pgs_nil))) (pss_cons (ps_expr (pe_call G_chkx (hr.mono (by decide)) rfl T.g_chkx T.k_chkx T.b_chkx .nil pass0 (pa_cons (pv 5) (pa_cons (pv 1) pa_nil))))
      (pss_one (ps_expr (pe_bm PySem.F.plainAttrs_list PySem.F.slot_list_append PySem.F.type_list_append mt_append (pe_setdT hr.units1 (pv 3) (pe_callTy call_tupA (by rfl) T.n_tuple (by decide +kernel) (pa_cons (pv 5) pa_nil)) (pe_lst pa_nil) ⟨rfl, rfl, rfl, rfl⟩) (pa_cons (pv 6) pa_nil))))))
      (pss_cons (ps_setLc (i := 4) (own := [("place", 7)]) (g := (gName 7)) (tt := tYes) (by rfl) sc_pinit.nd rfl rfl (sw_true rfl rfl rfl (by decide +kernel)) (pi_list (pe_callBK (cr_sortedF G_place (hr.mono (by decide)) T.b_place) (by rfl) T.n_sorted (by decide +kernel) (pa_cons (pe_callTy (call_listDT rfl) (by rfl) T.n_list (by decide +kernel) (pa_cons (pv 3) pa_nil)) pa_nil) (pk_cons (pe_glob rfl T.g_place rfl) pk_nil))) (blkOk_by (own := [("place", 7)]) (N := ["self", "dimension", "terms", "found", "pairs", "exponents", "number", "place", "pair"]) (sc := defScope s_pinit) (by decide +kernel)) (fun _ _ _ _ _ => (pg_name (i := 7) sc_pinit.nd rfl (.inl rfl))) (fun _ _ _ _ _ => pts_nil) (fun _ _ _ _ _ => (pe_tup (pa_cons (pv 7) (pa_cons (pe_call G_total (hr.mono (by decide)) rfl T.g_total T.k_total T.b_total .nil pass0 (pa_cons (pe_dget hr.units1 (pv 3) (pv 7) (fun _ _ => rfl)) pa_nil)) pa_nil)))))
      (pss_cons (ps_fld (pv 0) (pv 1) rfl)
      (pss_cons (ps_fld (pv 0) (pe_lc (own := [("pair", 8)]) (g := (gName 8)) (tt := (tTruO a.C (spBool a.C) E0 (tOp rIx1 (tVar 8) (tC (.int 1))))) (by rfl) sc_pinit.nd (pi_list (pv 4)) (blkOk_by (own := [("pair", 8)]) (N := ["self", "dimension", "terms", "found", "pairs", "exponents", "number", "place", "pair"]) (sc := defScope s_pinit) (by decide +kernel)) (fun _ _ _ _ _ => (pg_name (i := 8) sc_pinit.nd rfl (.inl rfl))) (fun _ _ _ _ _ => (pts_one (pt_own (pe_ix ix_1 (pv 8) pe_int (fun _ _ => rfl)) (tru_own T.o_bool T.i_bool G_bool (hr.mono (by decide)) T.b_bool pass0)))) (fun _ _ _ _ _ => (pv 8))) rfl)
      (pss_one (ps_fld (pv 0) (pe_dcG (own := [("place", 7), ("number", 6)]) (g := (gTup K 2 (gCons (gName 7) (gCons (gName 6) gNil)))) (tt := tYes) (kindT hr.units1) (by rfl) sc_pinit.nd (pi_list (pe_fldA (pv 0) T.isa_Polynomial.cl T.na__pairs rfl)) (blkOk_by (own := [("place", 7), ("number", 6)]) (N := ["self", "dimension", "terms", "found", "pairs", "exponents", "number", "place", "pair"]) (sc := defScope s_pinit) (by decide +kernel)) (fun _ _ _ _ _ => (pg_tup rfl (pgs_cons (pg_name (i := 7) sc_pinit.nd rfl (.inl rfl)) (pgs_cons (pg_name (i := 6) sc_pinit.nd rfl (.inl rfl)) pgs_nil)))) (fun _ _ _ _ _ => pts_nil) (fun _ _ _ _ _ => (pv 7)) (fun _ _ _ _ _ => (pv 6))) rfl))))))))
theorem ok_pterms (T : Txt P K mg a) : FnOk P w K mg base CX0 1 a.f_pterms a.d_pterms ["self"] (spTerms a.C a.PC) := by
  refine T.F_pterms.ok sc_pterms (fun vs H Q E h => by first | (obtain ⟨rfl, _⟩ := h; rfl) | (obtain ⟨_, rfl, _⟩ := h; rfl) | (obtain ⟨_, _, rfl, _⟩ := h; rfl) | (obtain ⟨_, _, _, rfl, _⟩ := h; rfl) | (obtain ⟨_, _, _, _, rfl, _⟩ := h; rfl) | (obtain ⟨_, _, _, _, _, rfl, _⟩ := h; rfl) | (obtain ⟨_, _, _, _, _, _, rfl, _⟩ := h; rfl) | (obtain ⟨_, _, _, _, _, _, _, rfl, _⟩ := h; rfl) | (obtain ⟨_, _, _, _, _, _, _, _, rfl, _⟩ := h; rfl) | (obtain ⟨_, _, _, _, _, _, _, _, _, rfl, _⟩ := h; rfl)) (fun cdv A outer s H vs Q E hr h => ⟨t_pterms P K mg a.C a.Z a.BT a.BN a.PC a.VA a.BP a.f_place E, ?_, pure_pterms vs H Q E h⟩)
  exact (pss_one (ps_ret (pe_callTy call_listA (by rfl) T.n_list (by decide +kernel) (pa_cons (pe_fldA (pv 0) T.isa_Polynomial.cl T.na__pairs rfl) pa_nil))))
theorem ok_peq (T : Txt P K mg a) : FnOk P w K mg base CX0 5 a.f_peq a.d_peq ["self", "other"] (spPEq a.C a.PC) := by
  have G_eq := ok_eq (P := P) (w := w) (base := base) T
  have G_pterms := ok_pterms (P := P) (w := w) (base := base) T
  refine T.F_peq.ok sc_peq (fun vs H Q E h => by first | (obtain ⟨rfl, _⟩ := h; rfl) | (obtain ⟨_, rfl, _⟩ := h; rfl) | (obtain ⟨_, _, rfl, _⟩ := h; rfl) | (obtain ⟨_, _, _, rfl, _⟩ := h; rfl) | (obtain ⟨_, _, _, _, rfl, _⟩ := h; rfl) | (obtain ⟨_, _, _, _, _, rfl, _⟩ := h; rfl) | (obtain ⟨_, _, _, _, _, _, rfl, _⟩ := h; rfl) | (obtain ⟨_, _, _, _, _, _, _, rfl, _⟩ := h; rfl) | (obtain ⟨_, _, _, _, _, _, _, _, rfl, _⟩ := h; rfl) | (obtain ⟨_, _, _, _, _, _, _, _, _, rfl, _⟩ := h; rfl)) (fun cdv A outer s H vs Q E hr h => ⟨t_peq P K mg a.C a.Z a.BT a.BN a.PC a.VA a.BP a.f_place E, ?_, pure_peq vs H Q E h⟩)
  exact (pss_one (ps_ret (pe_and (pe_callB (call_isA T.isa_Polynomial) (by rfl) T.n_isinstance (by decide +kernel) (pa_cons (pv 1) (pa_cons (pe_glob rfl T.g_Polynomial rfl) pa_nil))) (pe_and (pe_cmpR op_eq (pe_fldA (pv 0) T.isa_Polynomial.cl T.na_dimension rfl) (pe_fldA (pv 1) T.isa_Polynomial.cl T.na_dimension rfl) (nomark _)) (pe_one (pe_cmpR (op_eqG (rcTerms (CX := CX0) G_eq T.o_eq.hs T.o_eq.hf T.b_eq) (hr.mono (by decide))) (pe_meth0 (pv 0) T.isa_Polynomial.cl T.m_pterms G_pterms (hr.mono (by decide)) T.b_pterms .nil pass0) (pe_meth0 (pv 1) T.isa_Polynomial.cl T.m_pterms G_pterms (hr.mono (by decide)) T.b_pterms .nil pass0) (nomark _)))))))
theorem ok_pwmon (T : Txt P K mg a) : FnOk P w K mg base CX0 1 a.f_pwmon a.d_pwmon ["exponents"] spWMon := by
  refine T.F_pwmon.ok sc_pwmon (fun vs H Q E h => by first | (obtain ⟨rfl, _⟩ := h; rfl) | (obtain ⟨_, rfl, _⟩ := h; rfl) | (obtain ⟨_, _, rfl, _⟩ := h; rfl) | (obtain ⟨_, _, _, rfl, _⟩ := h; rfl) | (obtain ⟨_, _, _, _, rfl, _⟩ := h; rfl) | (obtain ⟨_, _, _, _, _, rfl, _⟩ := h; rfl) | (obtain ⟨_, _, _, _, _, _, rfl, _⟩ := h; rfl) | (obtain ⟨_, _, _, _, _, _, _, rfl, _⟩ := h; rfl) | (obtain ⟨_, _, _, _, _, _, _, _, rfl, _⟩ := h; rfl) | (obtain ⟨_, _, _, _, _, _, _, _, _, rfl, _⟩ := h; rfl)) (fun cdv A outer s H vs Q E hr h => ⟨t_pwmon P K mg a.C a.Z a.BT a.BN a.PC a.VA a.BP a.f_place E, ?_, pure_pwmon T.tv vs H Q E h⟩)
  exact (pss_cons (ps_set (i := 1) sc_pwmon.nd rfl (.inl rfl) (pe_lst pa_nil))
      (pss_cons (ps_for PassesOwn.never rfl (pi_zipA rfl T.n_zip (pa_cons (pe_gc rfl T.c_VARIABLES) (pa_cons (pv 0) pa_nil))) (pg_tup rfl (pgs_cons (pg_name (i := 2) sc_pwmon.nd rfl (.inl rfl)) (pgs_cons (pg_name (i := 3) sc_pwmon.nd rfl (.inl rfl)) pgs_nil))) (pss_one (ps_if (pt_cmpR op_eq (pv 3) pe_int (nomark _)) (pss_one (ps_expr (pe_bm PySem.F.plainAttrs_list PySem.F.slot_list_append PySem.F.type_list_append mt_append (pv 1) (pa_cons (pv 2) pa_nil)))) (pss_one (ps_if (pt_cmpR op_gt (pv 3) pe_int (nomark _)) (pss_one (ps_expr (pe_bm PySem.F.plainAttrs_list PySem.F.slot_list_append PySem.F.type_list_append mt_append (pv 1) (pa_cons (pe_joined (PJ.cons (pe_fmt (pv 2)) (PJ.cons pe_str (PJ.cons (pe_fmt (pv 3)) PJ.nil)))) pa_nil)))) pss_nil)))))
      (pss_one (ps_ret (pe_m1 PySem.F.slot_str_join PySem.F.type_str_join mt_joinT pe_str (pv 1))))))
theorem ok_pwsize (T : Txt P K mg a) : FnOk P w K mg base CX0 6 a.f_pwsize a.d_pwsize ["number", "monomial"] (spWSize a.C) := by
  have G_eq := ok_eq (P := P) (w := w) (base := base) T
  have G_nstr := ok_nstr (P := P) (w := w) (base := base) T
  refine T.F_pwsize.ok sc_pwsize (fun vs H Q E h => by first | (obtain ⟨rfl, _⟩ := h; rfl) | (obtain ⟨_, rfl, _⟩ := h; rfl) | (obtain ⟨_, _, rfl, _⟩ := h; rfl) | (obtain ⟨_, _, _, rfl, _⟩ := h; rfl) | (obtain ⟨_, _, _, _, rfl, _⟩ := h; rfl) | (obtain ⟨_, _, _, _, _, rfl, _⟩ := h; rfl) | (obtain ⟨_, _, _, _, _, _, rfl, _⟩ := h; rfl) | (obtain ⟨_, _, _, _, _, _, _, rfl, _⟩ := h; rfl) | (obtain ⟨_, _, _, _, _, _, _, _, rfl, _⟩ := h; rfl) | (obtain ⟨_, _, _, _, _, _, _, _, _, rfl, _⟩ := h; rfl)) (fun cdv A outer s H vs Q E hr h => ⟨t_pwsize P K mg a.C a.Z a.BT a.BN a.PC a.VA a.BP a.f_place E, ?_, pure_pwsize vs H Q E h⟩)
  exact (pss_cons (ps_if (pt_cmpR op_eq (pv 1) pe_str (nomark _)) (pss_one (ps_ret (pe_callTy (call_strOwn T.o_nstr T.i_nstr G_nstr (hr.mono (by decide)) T.b_nstr pass0) (by rfl) T.n_str (by decide +kernel) (pa_cons (pv 0) pa_nil)))) pss_nil)
      (pss_one (ps_ret (pe_ifExp (pt_cmpR (cmp_ownI T.o_eq G_eq (hr.mono (by decide)) T.b_eq pass0) (pv 0) pe_int (nomark _)) (pv 1) (pe_joined (PJ.cons (pe_fmtO T.isa_Ratio.hm T.fm_Ratio T.o_nstr T.i_nstr G_nstr (hr.mono (by decide)) T.b_nstr pass0 (pv 0)) (PJ.cons pe_str (PJ.cons (pe_fmt (pv 1)) PJ.nil))))))))
theorem ok_ppieces (T : Txt P K mg a) : FnOk P w K mg base CX0 7 a.f_ppieces a.d_ppieces ["terms"] (spPieces a.C) := by
  have G_absw := ok_absw (P := P) (w := w) (base := base) T
  have G_pwmon := ok_pwmon (P := P) (w := w) (base := base) T
  have G_pwsize := ok_pwsize (P := P) (w := w) (base := base) T
  have G_sign := ok_sign (P := P) (w := w) (base := base) T
  refine T.F_ppieces.ok sc_ppieces (fun vs H Q E h => by first | (obtain ⟨rfl, _⟩ := h; rfl) | (obtain ⟨_, rfl, _⟩ := h; rfl) | (obtain ⟨_, _, rfl, _⟩ := h; rfl) | (obtain ⟨_, _, _, rfl, _⟩ := h; rfl) | (obtain ⟨_, _, _, _, rfl, _⟩ := h; rfl) | (obtain ⟨_, _, _, _, _, rfl, _⟩ := h; rfl) | (obtain ⟨_, _, _, _, _, _, rfl, _⟩ := h; rfl) | (obtain ⟨_, _, _, _, _, _, _, rfl, _⟩ := h; rfl) | (obtain ⟨_, _, _, _, _, _, _, _, rfl, _⟩ := h; rfl) | (obtain ⟨_, _, _, _, _, _, _, _, _, rfl, _⟩ := h; rfl)) (fun cdv A outer s H vs Q E hr h => ⟨t_ppieces P K mg a.C a.Z a.BT a.BN a.PC a.VA a.BP a.f_place E, ?_, pure_ppieces vs H Q E h⟩)
  exact (pss_cons (ps_if (pt_not (pt_truth (pv 0) (by intro _; rfl))) (pss_one ps_never) pss_nil)
      (pss_cons (ps_set (i := 1) sc_ppieces.nd rfl (.inl rfl) (pe_lst pa_nil))
      (pss_cons (ps_for PassesOwn.never rfl (pi_list (pv 0)) (pg_tup rfl (pgs_cons (pg_name (i := 2) sc_ppieces.nd rfl (.inl rfl)) (pgs_cons (pg_name (i := 3) sc_ppieces.nd rfl (.inl rfl)) pgs_nil))) (pss_cons (ps_set (i := 4) sc_ppieces.nd rfl (.inl rfl) (pe_cmpR op_lt (pe_meth0 (pv 3) T.isa_Ratio.cl T.m_sign G_sign (hr.mono (by decide)) T.b_sign .nil pass0) pe_int (nomark _)))
      (pss_cons (ps_if (pt_truth (pv 1) (by intro _; rfl)) (pss_one ps_never) (pss_one (ps_if (pt_val (pv 4)) (pss_one (ps_expr (pe_bm PySem.F.plainAttrs_list PySem.F.slot_list_append PySem.F.type_list_append mt_append (pv 1) (pa_cons pe_str pa_nil)))) pss_nil)))
      (pss_one (ps_expr (pe_bm PySem.F.plainAttrs_list PySem.F.slot_list_append PySem.F.type_list_append mt_append (pv 1) (pa_cons (pe_call G_pwsize (hr.mono (by decide)) rfl T.g_pwsize T.k_pwsize T.b_pwsize .nil pass0 (pa_cons (pe_callB (call_absOwn T.o_absw T.i_absw G_absw (hr.mono (by decide)) T.b_absw pass0) (by rfl) T.n_abs (by decide +kernel) (pa_cons (pv 3) pa_nil)) (pa_cons (pe_call G_pwmon (hr.mono (by decide)) rfl T.g_pwmon T.k_pwmon T.b_pwmon .nil pass0 (pa_cons (pv 2) pa_nil)) pa_nil))) pa_nil)))))))
      (pss_one (ps_ret (pv 1))))))
theorem ok_pstr (T : Txt P K mg a) : FnOk P w K mg base CX0 8 a.f_pstr a.d_pstr ["self"] (spPStr a.C a.PC) := by
  have G_ppieces := ok_ppieces (P := P) (w := w) (base := base) T
  refine T.F_pstr.ok sc_pstr (fun vs H Q E h => by first | (obtain ⟨rfl, _⟩ := h; rfl) | (obtain ⟨_, rfl, _⟩ := h; rfl) | (obtain ⟨_, _, rfl, _⟩ := h; rfl) | (obtain ⟨_, _, _, rfl, _⟩ := h; rfl) | (obtain ⟨_, _, _, _, rfl, _⟩ := h; rfl) | (obtain ⟨_, _, _, _, _, rfl, _⟩ := h; rfl) | (obtain ⟨_, _, _, _, _, _, rfl, _⟩ := h; rfl) | (obtain ⟨_, _, _, _, _, _, _, rfl, _⟩ := h; rfl) | (obtain ⟨_, _, _, _, _, _, _, _, rfl, _⟩ := h; rfl) | (obtain ⟨_, _, _, _, _, _, _, _, _, rfl, _⟩ := h; rfl)) (fun cdv A outer s H vs Q E hr h => ⟨t_pstr P K mg a.C a.Z a.BT a.BN a.PC a.VA a.BP a.f_place E, ?_, pure_pstr vs H Q E h⟩)
  exact (pss_one (ps_ret (pe_m1 PySem.F.slot_str_join PySem.F.type_str_join mt_joinT pe_str (pe_call G_ppieces (hr.mono (by decide)) rfl T.g_ppieces T.k_ppieces T.b_ppieces .nil pass0 (pa_cons (pe_fldA (pv 0) T.isa_Polynomial.cl T.na__pairs rfl) pa_nil)))))
theorem ok_rpower (T : Txt P K mg a) : FnOk P w K mg base CX0 1 a.f_rpower a.d_rpower ["word", "dimension"] spRPower := by
  refine T.F_rpower.ok sc_rpower (fun vs H Q E h => by first | (obtain ⟨rfl, _⟩ := h; rfl) | (obtain ⟨_, rfl, _⟩ := h; rfl) | (obtain ⟨_, _, rfl, _⟩ := h; rfl) | (obtain ⟨_, _, _, rfl, _⟩ := h; rfl) | (obtain ⟨_, _, _, _, rfl, _⟩ := h; rfl) | (obtain ⟨_, _, _, _, _, rfl, _⟩ := h; rfl) | (obtain ⟨_, _, _, _, _, _, rfl, _⟩ := h; rfl) | (obtain ⟨_, _, _, _, _, _, _, rfl, _⟩ := h; rfl) | (obtain ⟨_, _, _, _, _, _, _, _, rfl, _⟩ := h; rfl) | (obtain ⟨_, _, _, _, _, _, _, _, _, rfl, _⟩ := h; rfl)) (fun cdv A outer s H vs Q E hr h => ⟨t_rpower P K mg a.C a.Z a.BT a.BN a.PC a.VA a.BP a.f_place E, ?_, pure_rpower T.tv T.ty vs H Q E h⟩)
  exact (pss_cons (ps_asg (pe_m1 PySem.F.slot_str_partition PySem.F.type_str_partition mt_parT (pv 0) pe_str) (pg_tup rfl (pgs_cons (pg_name (i := 2) sc_rpower.nd rfl (.inl rfl)) (pgs_cons (pg_name (i := 3) sc_rpower.nd rfl (.inl rfl)) (pgs_cons (pg_name (i := 4) sc_rpower.nd rfl (.inl rfl)) pgs_nil)))))
      (pss_cons (ps_if (pt_cmpR (op_notInT hr.units) (pv 2) (pe_slice sl_tupA (pe_gc rfl T.c_VARIABLES) po_none (po_some (pv 1))) (by rfl)) (pss_one ps_never) pss_nil)
      (pss_cons (ps_if (pt_not (pt_truth (pv 3) (by intro _; rfl))) (pss_one (ps_ret (pe_tup (pa_cons (pe_bm PySem.F.plainAttrs_tuple PySem.F.slot_tuple_index PySem.F.type_tuple_index mt_tupIx (pe_gc rfl T.c_VARIABLES) (pa_cons (pv 2) pa_nil)) (pa_cons pe_int pa_nil))))) pss_nil)
      (pss_cons (ps_if (PW.pt (pw_or (pt_cmpR op_gt (pe_callB call_lenT (by rfl) T.n_len boot_len (pa_cons (pv 4) pa_nil)) pe_int (nomark _)) (pw_or (pt_not (pt_val (pe_m0 PySem.F.slot_str_isascii PySem.F.type_str_isascii mt_ascT (pv 4)))) (pw_or1 (pt_not (pt_val (pe_m0 PySem.F.slot_str_isdigit PySem.F.type_str_isdigit mt_digT (pv 4)))))))) (pss_one ps_never) pss_nil)
      (pss_one (ps_ret (pe_tup (pa_cons (pe_bm PySem.F.plainAttrs_tuple PySem.F.slot_tuple_index PySem.F.type_tuple_index mt_tupIx (pe_gc rfl T.c_VARIABLES) (pa_cons (pv 2) pa_nil)) (pa_cons (pe_callTy call_intT (by rfl) T.n_int (by decide +kernel) (pa_cons (pv 4) pa_nil)) pa_nil)))))))))
theorem ok_rterm (T : Txt P K mg a) : FnOk P w K mg base (L2N.CX P w) 7 a.f_rterm a.d_rterm ["words", "sign", "dimension"] (spRTerm a.C a.BN) := by
  have G_init := ok_init (P := P) (w := w) (base := base) T
  have G_nread := ok_nread (P := P) (w := w) (base := base) T
  have G_rmulw := ok_rmulw (P := P) (w := w) (base := base) T
  have G_rpower := ok_rpower (P := P) (w := w) (base := base) T
  refine T.F_rterm.okN sc_rterm (fun vs H Q E h => by first | (obtain ⟨rfl, _⟩ := h; rfl) | (obtain ⟨_, rfl, _⟩ := h; rfl) | (obtain ⟨_, _, rfl, _⟩ := h; rfl) | (obtain ⟨_, _, _, rfl, _⟩ := h; rfl) | (obtain ⟨_, _, _, _, rfl, _⟩ := h; rfl) | (obtain ⟨_, _, _, _, _, rfl, _⟩ := h; rfl) | (obtain ⟨_, _, _, _, _, _, rfl, _⟩ := h; rfl) | (obtain ⟨_, _, _, _, _, _, _, rfl, _⟩ := h; rfl) | (obtain ⟨_, _, _, _, _, _, _, _, rfl, _⟩ := h; rfl) | (obtain ⟨_, _, _, _, _, _, _, _, _, rfl, _⟩ := h; rfl)) (fun cdv A outer s H vs Q E hr h => ⟨t_rterm P K mg a.C a.Z a.BT a.BN a.PC a.VA a.BP a.f_place E, ?_, pure_rterm vs H Q E h⟩)
  exact (pss_cons (ps_set (i := 3) sc_rterm.nd rfl (.inl rfl) (pe_make T.mk_Ratio G_init (hr.mono (by decide)) rfl T.g_Ratio T.b_init1 T.v_init1 (L2N.passes_call (L2N.takes_of rfl rfl rfl rfl) (fun _ _ _ _ h => h)) (pa_cons (pv 1) pa_nil)))
      (pss_cons (ps_set (i := 4) sc_rterm.nd rfl (.inl rfl) (pv 0))
      (pss_cons (ps_if (PW.pt (pw_and (pt_truth (pv 0) (by intro _; rfl)) (pw_and1 (pt_val (pe_m0 PySem.F.slot_str_isdigit PySem.F.type_str_isdigit mt_digT (pe_slice sl_str (pe_ix ix_1 (pv 0) pe_int (fun _ _ => rfl)) po_none (po_some pe_int))))))) (pss_cons (ps_set (i := 3) sc_rterm.nd rfl (.inl rfl) (pe_op (op_ownR T.o_rmulw decl_mul G_rmulw (hr.mono (by decide)) T.b_rmulw pass0) (pv 1) (pe_sm rfl T.g_Ratio T.cr_Ratio T.sm_nread G_nread (hr.mono (by decide)) T.b_nread (fun σ => passesAt_of (L2N.passes_call (L2N.takes_of rfl rfl rfl rfl) (fun _ _ _ _ h => h)) σ) (pa_cons (pe_ix ix_1 (pv 0) pe_int (fun _ _ => rfl)) pa_nil))))
      (pss_one (ps_set (i := 4) sc_rterm.nd rfl (.inl rfl) (pe_slice sl_A (pv 0) (po_some pe_int) po_none)))) pss_nil)
      (pss_cons (ps_set (i := 5) sc_rterm.nd rfl (.inl rfl) (pe_op op_rep (pe_lst (pa_cons pe_int pa_nil)) (pv 2)))
      (pss_cons (ps_for (passes_of rfl) rfl (pi_list (pv 4)) (pg_name (i := 6) sc_rterm.nd rfl (.inl rfl)) (pss_cons (ps_asg (pe_call G_rpower (hr.mono (by decide)) rfl T.g_rpower T.k_rpower T.b_rpower .nil pass0 (pa_cons (pv 6) (pa_cons (pv 2) pa_nil))) (pg_tup rfl (pgs_cons (pg_name (i := 7) sc_rterm.nd rfl (.inl rfl)) (pgs_cons (pg_name (i := 8) sc_rterm.nd rfl (.inl rfl)) pgs_nil))))
      (pss_one (ps_asg (pv 8) (pg_sub (pv 5) (pv 7) set_list)))))
      (pss_one (ps_ret (pe_tup (pa_cons (pe_callTy call_tupA (by rfl) T.n_tuple (by decide +kernel) (pa_cons (pv 5) pa_nil)) (pa_cons (pv 3) pa_nil))))))))))
theorem ok_rterms (T : Txt P K mg a) : FnOk P w K mg base (L2N.CX P w) 8 a.f_rterms a.d_rterms ["text", "dimension"] (spRTerms a.C a.BN) := by
  have G_rterm := ok_rterm (P := P) (w := w) (base := base) T
  refine T.F_rterms.okN sc_rterms (fun vs H Q E h => by first | (obtain ⟨rfl, _⟩ := h; rfl) | (obtain ⟨_, rfl, _⟩ := h; rfl) | (obtain ⟨_, _, rfl, _⟩ := h; rfl) | (obtain ⟨_, _, _, rfl, _⟩ := h; rfl) | (obtain ⟨_, _, _, _, rfl, _⟩ := h; rfl) | (obtain ⟨_, _, _, _, _, rfl, _⟩ := h; rfl) | (obtain ⟨_, _, _, _, _, _, rfl, _⟩ := h; rfl) | (obtain ⟨_, _, _, _, _, _, _, rfl, _⟩ := h; rfl) | (obtain ⟨_, _, _, _, _, _, _, _, rfl, _⟩ := h; rfl) | (obtain ⟨_, _, _, _, _, _, _, _, _, rfl, _⟩ := h; rfl)) (fun cdv A outer s H vs Q E hr h => ⟨t_rterms P K mg a.C a.Z a.BT a.BN a.PC a.VA a.BP a.f_place E, ?_, pure_rterms vs H Q E h⟩)
  exact (pss_cons (ps_set (i := 2) sc_rterms.nd rfl (.inl rfl) (pe_lst pa_nil))
      (pss_cons (ps_set (i := 3) sc_rterms.nd rfl (.inl rfl) (pe_ifExp (pt_val (pe_m1 PySem.F.slot_str_startswith PySem.F.type_str_startswith mt_startT (pv 0) pe_str)) (pe_un un_neg pe_int) pe_int))
      (pss_cons (ps_set (i := 4) sc_rterms.nd rfl (.inl rfl) (pe_lst pa_nil))
      (pss_cons (ps_for (passes_of rfl) rfl (pi_list (pe_m1 PySem.F.slot_str_split PySem.F.type_str_split mt_splT (pe_m1 PySem.F.slot_str_removeprefix PySem.F.type_str_removeprefix mt_preT (pv 0) pe_str) pe_str)) (pg_name (i := 5) sc_rterms.nd rfl (.inl rfl)) (pss_one (ps_if (PW.pt (pw_or (pt_cmpR op_eq (pv 5) pe_str (nomark _)) (pw_or1 (pt_cmpR op_eq (pv 5) pe_str (nomark _))))) (pss_cons ps_never
      (pss_cons ps_never
      (pss_one ps_never))) (pss_one (ps_expr (pe_bm PySem.F.plainAttrs_list PySem.F.slot_list_append PySem.F.type_list_append mt_append (pv 4) (pa_cons (pv 5) pa_nil)))))))
      (pss_cons (ps_expr (pe_bm PySem.F.plainAttrs_list PySem.F.slot_list_append PySem.F.type_list_append mt_append (pv 2) (pa_cons (pe_call G_rterm (hr.mono (by decide)) rfl T.g_rterm T.k_rterm T.b_rterm .nil (L2N.passes_call (L2N.takes_of rfl rfl rfl rfl) (fun _ _ _ _ h => h)) (pa_cons (pv 4) (pa_cons (pv 3) (pa_cons (pv 1) pa_nil)))) pa_nil)))
      (pss_one (ps_ret (pv 2))))))))
theorem ok_rpoly (T : Txt P K mg a) : FnOk P w K mg base (L2.CX P w) 11 a.f_rpoly a.d_rpoly ["text", "dimension"] (spRPoly a.C a.PC a.BP) := by
  have G_chk3 := ok_chk3 (P := P) (w := w) (base := base) T
  have G_pinit := ok_pinit (P := P) (w := w) (base := base) T
  have G_pstr := ok_pstr (P := P) (w := w) (base := base) T
  have G_rterms := ok_rterms (P := P) (w := w) (base := base) T
  have H_bt := okH_bt (P := P) (w := w) (base := base) T
  refine T.F_rpoly.okX sc_rpoly (fun vs H Q E h => by first | (obtain ⟨rfl, _⟩ := h; rfl) | (obtain ⟨_, rfl, _⟩ := h; rfl) | (obtain ⟨_, _, rfl, _⟩ := h; rfl) | (obtain ⟨_, _, _, rfl, _⟩ := h; rfl) | (obtain ⟨_, _, _, _, rfl, _⟩ := h; rfl) | (obtain ⟨_, _, _, _, _, rfl, _⟩ := h; rfl) | (obtain ⟨_, _, _, _, _, _, rfl, _⟩ := h; rfl) | (obtain ⟨_, _, _, _, _, _, _, rfl, _⟩ := h; rfl) | (obtain ⟨_, _, _, _, _, _, _, _, rfl, _⟩ := h; rfl) | (obtain ⟨_, _, _, _, _, _, _, _, _, rfl, _⟩ := h; rfl)) (fun cdv A outer s H vs Q E hr h => ⟨t_rpoly a.LA P K mg a.C a.Z a.BT a.BN a.PC a.VA a.BP a.f_place E, ?_, pure_rpoly T.hm T.te_BP vs H Q E h⟩)
  exact (pss_cons (ps_expr (pe_call G_chk3 (hr.mono (by decide)) rfl T.g_chk3 T.k_chk3 T.b_chk3 .nil pass0 (pa_cons (pv 1) pa_nil)))
      (pss_cons (ps_if (pt_cmpR op_gt (pe_callB call_lenT (by rfl) T.n_len boot_len (pa_cons (pv 0) pa_nil)) (pe_gc rfl T.c_LONGEST_TEXT) (nomark _)) (pss_one ps_never) pss_nil)
      (pss_cons (ps_try_testX (tb := t_rpbody a.C a.PC a.BN) (ts := fun _ _ _ => tRaiseT P K mg a.BT a.BP (fun cls d _ H => E cls d H) (tVar 0)) (Wout := fun cls d _ H => E cls d H) rfl rfl (tests_tup3 ⟨rfl, by decide, Or.inl T.g_BadNumber⟩ ⟨rfl, by decide, Or.inl T.g_BadPolynomial⟩ ⟨rfl, by decide, Or.inl T.g_TooLarge⟩) (L2H.passesAt_of rfl) (takes_of rfl rfl rfl rfl)
      (fun W pn xe tk _ _ => (pss_one (ps_set (i := 2) sc_rpoly.nd rfl (.inl rfl) (pe_make T.mk_Polynomial G_pinit (hr.mono (by decide)) rfl T.g_Polynomial T.b_pinit .nil pass0 (pa_cons (pv 1) (pa_cons (pe_callS G_rterms (hr.mono (by decide)) rfl T.g_rterms T.k_rterms T.b_rterms (fun σ => L2N.passAt tk σ) (pa_cons (pv 0) (pa_cons (pv 1) pa_nil))) pa_nil))))))
      (fun a0 oe cls d pn hz hf tks hot => (pss_one (ps_raiseTH (W := fun cls d _ H => E cls d H) hot tks T.te_BP T.ti_bt H_bt (roomH_mark (hr.mono (by decide)) _) T.b_bt rfl T.g_BadPolynomial (pv 0)))))
      (pss_cons (ps_if (pt_cmpR op_ne (pe_callTy (call_strOwn T.o_pstr T.i_pstr G_pstr (hr.mono (by decide)) T.b_pstr pass0) (by rfl) T.n_str (by decide +kernel) (pa_cons (pv 2) pa_nil)) (pv 0) (nomark _)) (pss_one ps_never) pss_nil)
      (pss_one (ps_ret (pv 2)))))))
theorem ok_lfig (T : Txt P K mg a) : FnOk P w K mg base CX0 2 a.f_lfig a.d_lfig ["pool"] spFig := by
  have G_take := ok_take (P := P) (w := w) (base := base) T
  refine T.F_lfig.ok sc_lfig (fun vs H Q E h => by first | (obtain ⟨rfl, _⟩ := h; rfl) | (obtain ⟨_, rfl, _⟩ := h; rfl) | (obtain ⟨_, _, rfl, _⟩ := h; rfl) | (obtain ⟨_, _, _, rfl, _⟩ := h; rfl) | (obtain ⟨_, _, _, _, rfl, _⟩ := h; rfl) | (obtain ⟨_, _, _, _, _, rfl, _⟩ := h; rfl) | (obtain ⟨_, _, _, _, _, _, rfl, _⟩ := h; rfl) | (obtain ⟨_, _, _, _, _, _, _, rfl, _⟩ := h; rfl) | (obtain ⟨_, _, _, _, _, _, _, _, rfl, _⟩ := h; rfl) | (obtain ⟨_, _, _, _, _, _, _, _, _, rfl, _⟩ := h; rfl)) (fun cdv A outer s H vs Q E hr h => ⟨t_lfig P K mg a.C a.Z a.BT a.BN a.PC a.VA a.BP a.f_place E, ?_, pure_lfig vs H Q E h⟩)
  exact (pss_cons (ps_set (i := 1) sc_lfig.nd rfl (.inl rfl) (pe_op op_add pe_int (pe_call G_take (hr.mono (by decide)) rfl T.g_take T.k_take T.b_take .nil pass0 (pa_cons (pv 0) (pa_cons pe_int pa_nil)))))
      (pss_cons (ps_for PassesOwn.never rfl (pi_range1 rfl T.n_range (pa_cons pe_int pa_nil)) (pg_name (i := 2) sc_lfig.nd rfl (.inl rfl)) (pss_one (ps_set (i := 1) sc_lfig.nd rfl (.inl rfl) (pe_op op_add (pe_op op_mulI (pv 1) (pe_op op_pow pe_int pe_int)) (pe_call G_take (hr.mono (by decide)) rfl T.g_take T.k_take T.b_take .nil pass0 (pa_cons (pv 0) (pa_cons (pe_op op_pow pe_int pe_int) pa_nil)))))))
      (pss_cons (ps_set (i := 1) sc_lfig.nd rfl (.inl rfl) (pe_op op_add (pe_op op_mulI (pv 1) pe_int) (pe_call G_take (hr.mono (by decide)) rfl T.g_take T.k_take T.b_take .nil pass0 (pa_cons (pv 0) (pa_cons pe_int pa_nil)))))
      (pss_one (ps_ret (pe_op op_add (pe_op op_mod (pe_callTy call_int1 (by rfl) T.n_int (by decide +kernel) (pa_cons (pv 1) pa_nil)) (pe_op op_pow pe_int pe_int)) (pe_op op_mulI (pe_op op_add pe_int (pe_call G_take (hr.mono (by decide)) rfl T.g_take T.k_take T.b_take .nil pass0 (pa_cons (pv 0) (pa_cons pe_int pa_nil)))) (pe_op op_pow pe_int pe_int))))))))
theorem ok_ldrawn (T : Txt P K mg a) : FnOk P w K mg base CX0 3 a.f_ldrawn a.d_ldrawn ["pool"] spLDrawn := by
  have G_common := ok_common (P := P) (w := w) (base := base) T
  have G_lfig := ok_lfig (P := P) (w := w) (base := base) T
  have G_take := ok_take (P := P) (w := w) (base := base) T
  refine T.F_ldrawn.ok sc_ldrawn (fun vs H Q E h => by first | (obtain ⟨rfl, _⟩ := h; rfl) | (obtain ⟨_, rfl, _⟩ := h; rfl) | (obtain ⟨_, _, rfl, _⟩ := h; rfl) | (obtain ⟨_, _, _, rfl, _⟩ := h; rfl) | (obtain ⟨_, _, _, _, rfl, _⟩ := h; rfl) | (obtain ⟨_, _, _, _, _, rfl, _⟩ := h; rfl) | (obtain ⟨_, _, _, _, _, _, rfl, _⟩ := h; rfl) | (obtain ⟨_, _, _, _, _, _, _, rfl, _⟩ := h; rfl) | (obtain ⟨_, _, _, _, _, _, _, _, rfl, _⟩ := h; rfl) | (obtain ⟨_, _, _, _, _, _, _, _, _, rfl, _⟩ := h; rfl)) (fun cdv A outer s H vs Q E hr h => ⟨t_ldrawn P K mg a.C a.Z a.BT a.BN a.PC a.VA a.BP a.f_place E, ?_, pure_ldrawn vs H Q E h⟩)
  exact (pss_cons (ps_set (i := 1) sc_ldrawn.nd rfl (.inl rfl) (pe_call G_lfig (hr.mono (by decide)) rfl T.g_lfig T.k_lfig T.b_lfig .nil pass0 (pa_cons (pv 0) pa_nil)))
      (pss_cons (ps_set (i := 2) sc_ldrawn.nd rfl (.inl rfl) pe_int)
      (pss_cons (ps_set (i := 3) sc_ldrawn.nd rfl (.inl rfl) (pe_call G_take (hr.mono (by decide)) rfl T.g_take T.k_take T.b_take .nil pass0 (pa_cons (pv 0) (pa_cons pe_int pa_nil))))
      (pss_cons (ps_if (pt_cmpR op_eq (pv 3) pe_int (nomark _)) (pss_one (ps_set (i := 2) sc_ldrawn.nd rfl (.inl rfl) (pe_call G_lfig (hr.mono (by decide)) rfl T.g_lfig T.k_lfig T.b_lfig .nil pass0 (pa_cons (pv 0) pa_nil)))) pss_nil)
      (pss_cons (ps_if (pt_cmpR op_eq (pv 3) pe_int (nomark _)) (pss_cons (ps_set (i := 2) sc_ldrawn.nd rfl (.inl rfl) (pv 1))
      (pss_one (ps_set (i := 1) sc_ldrawn.nd rfl (.inl rfl) (pe_op op_add pe_int (pe_call G_take (hr.mono (by decide)) rfl T.g_take T.k_take T.b_take .nil pass0 (pa_cons (pv 0) (pa_cons (pe_op op_pow pe_int pe_int) pa_nil))))))) pss_nil)
      (pss_cons (ps_set (i := 4) sc_ldrawn.nd rfl (.inl rfl) (pe_call G_common (hr.mono (by decide)) rfl T.g_common T.k_common T.b_common .nil pass0 (pa_cons (pv 1) (pa_cons (pv 2) pa_nil))))
      (pss_cons (ps_if (pt_cmpR op_eq (pe_call G_take (hr.mono (by decide)) rfl T.g_take T.k_take T.b_take .nil pass0 (pa_cons (pv 0) (pa_cons pe_int pa_nil))) pe_int (nomark _)) (pss_one (ps_set (i := 1) sc_ldrawn.nd rfl (.inl rfl) (pe_un un_neg (pv 1)))) pss_nil)
      (pss_one (ps_ret (pe_tup (pa_cons (pe_op op_fdivF (pv 1) (pv 4)) (pa_cons (pe_op op_fdivF (pv 2) (pv 4)) pa_nil))))))))))))
theorem ok_ltext (T : Txt P K mg a) : FnOk P w K mg base CX0 1 a.f_ltext a.d_ltext ["number"] spLText := by
  refine T.F_ltext.ok sc_ltext (fun vs H Q E h => by first | (obtain ⟨rfl, _⟩ := h; rfl) | (obtain ⟨_, rfl, _⟩ := h; rfl) | (obtain ⟨_, _, rfl, _⟩ := h; rfl) | (obtain ⟨_, _, _, rfl, _⟩ := h; rfl) | (obtain ⟨_, _, _, _, rfl, _⟩ := h; rfl) | (obtain ⟨_, _, _, _, _, rfl, _⟩ := h; rfl) | (obtain ⟨_, _, _, _, _, _, rfl, _⟩ := h; rfl) | (obtain ⟨_, _, _, _, _, _, _, rfl, _⟩ := h; rfl) | (obtain ⟨_, _, _, _, _, _, _, _, rfl, _⟩ := h; rfl) | (obtain ⟨_, _, _, _, _, _, _, _, _, rfl, _⟩ := h; rfl)) (fun cdv A outer s H vs Q E hr h => ⟨t_ltext P K mg a.C a.Z a.BT a.BN a.PC a.VA a.BP a.f_place E, ?_, pure_ltext vs H Q E h⟩)
  exact (pss_cons (ps_set (i := 1) sc_ltext.nd rfl (.inl rfl) (pe_lst pa_nil))
      (pss_cons (ps_set (i := 2) sc_ltext.nd rfl (.inl rfl) (pv 0))
      (pss_cons (ps_for PassesOwn.never rfl (pi_range1 rfl T.n_range (pa_cons pe_int pa_nil)) (pg_name (i := 3) sc_ltext.nd rfl (.inl rfl)) (pss_one (ps_if (pt_cmpR op_ge (pv 2) (pe_op op_pow pe_int pe_int) (nomark _)) (pss_cons (ps_expr (pe_bm PySem.F.plainAttrs_list PySem.F.slot_list_append PySem.F.type_list_append mt_append (pv 1) (pa_cons (pe_m1 PySem.F.slot_str_zfill PySem.F.type_str_zfill mt_zfT (pe_callTy call_strI (by rfl) T.n_str (by decide +kernel) (pa_cons (pe_op op_mod (pe_callTy call_int1 (by rfl) T.n_int (by decide +kernel) (pa_cons (pv 2) pa_nil)) (pe_op op_pow pe_int pe_int)) pa_nil)) pe_int) pa_nil)))
      (pss_one (ps_set (i := 2) sc_ltext.nd rfl (.inl rfl) (pe_op op_fdivF (pv 2) (pe_op op_pow pe_int pe_int))))) pss_nil)))
      (pss_cons (ps_expr (pe_bm PySem.F.plainAttrs_list PySem.F.slot_list_append PySem.F.type_list_append mt_append (pv 1) (pa_cons (pe_callTy call_strI (by rfl) T.n_str (by decide +kernel) (pa_cons (pv 2) pa_nil)) pa_nil)))
      (pss_one (ps_ret (pe_m1 PySem.F.slot_str_join PySem.F.type_str_join mt_joinT pe_str (pe_revL (pv 1)))))))))
theorem ok_lwritten (T : Txt P K mg a) : FnOk P w K mg base CX0 2 a.f_lwritten a.d_lwritten ["pair"] spLWritten := by
  have G_ltext := ok_ltext (P := P) (w := w) (base := base) T
  refine T.F_lwritten.ok sc_lwritten (fun vs H Q E h => by first | (obtain ⟨rfl, _⟩ := h; rfl) | (obtain ⟨_, rfl, _⟩ := h; rfl) | (obtain ⟨_, _, rfl, _⟩ := h; rfl) | (obtain ⟨_, _, _, rfl, _⟩ := h; rfl) | (obtain ⟨_, _, _, _, rfl, _⟩ := h; rfl) | (obtain ⟨_, _, _, _, _, rfl, _⟩ := h; rfl) | (obtain ⟨_, _, _, _, _, _, rfl, _⟩ := h; rfl) | (obtain ⟨_, _, _, _, _, _, _, rfl, _⟩ := h; rfl) | (obtain ⟨_, _, _, _, _, _, _, _, rfl, _⟩ := h; rfl) | (obtain ⟨_, _, _, _, _, _, _, _, _, rfl, _⟩ := h; rfl)) (fun cdv A outer s H vs Q E hr h => ⟨t_lwritten P K mg a.C a.Z a.BT a.BN a.PC a.VA a.BP a.f_place E, ?_, pure_lwritten vs H Q E h⟩)
  exact (pss_cons (ps_set (i := 1) sc_lwritten.nd rfl (.inl rfl) (pe_call G_ltext (hr.mono (by decide)) rfl T.g_ltext T.k_ltext T.b_ltext .nil pass0 (pa_cons (pe_callB call_abs (by rfl) T.n_abs (by decide +kernel) (pa_cons (pe_ix ix_1 (pv 0) pe_int (fun _ _ => rfl)) pa_nil)) pa_nil)))
      (pss_cons (ps_if (pt_cmpR op_lt (pe_ix ix_1 (pv 0) pe_int (fun _ _ => rfl)) pe_int (nomark _)) (pss_one (ps_set (i := 1) sc_lwritten.nd rfl (.inl rfl) (pe_op op_addT pe_str (pv 1)))) pss_nil)
      (pss_cons (ps_if (pt_cmpR op_eq (pe_ix ix_1 (pv 0) pe_int (fun _ _ => rfl)) pe_int (nomark _)) (pss_one (ps_ret (pv 1))) pss_nil)
      (pss_one (ps_ret (pe_op op_addT (pe_op op_addT (pv 1) pe_str) (pe_call G_ltext (hr.mono (by decide)) rfl T.g_ltext T.k_ltext T.b_ltext .nil pass0 (pa_cons (pe_ix ix_1 (pv 0) pe_int (fun _ _ => rfl)) pa_nil))))))))
theorem ok_lletters (T : Txt P K mg a) : FnOk P w K mg base CX0 1 a.f_lletters a.d_lletters ["exponents"] spLLetters := by
  refine T.F_lletters.ok sc_lletters (fun vs H Q E h => by first | (obtain ⟨rfl, _⟩ := h; rfl) | (obtain ⟨_, rfl, _⟩ := h; rfl) | (obtain ⟨_, _, rfl, _⟩ := h; rfl) | (obtain ⟨_, _, _, rfl, _⟩ := h; rfl) | (obtain ⟨_, _, _, _, rfl, _⟩ := h; rfl) | (obtain ⟨_, _, _, _, _, rfl, _⟩ := h; rfl) | (obtain ⟨_, _, _, _, _, _, rfl, _⟩ := h; rfl) | (obtain ⟨_, _, _, _, _, _, _, rfl, _⟩ := h; rfl) | (obtain ⟨_, _, _, _, _, _, _, _, rfl, _⟩ := h; rfl) | (obtain ⟨_, _, _, _, _, _, _, _, _, rfl, _⟩ := h; rfl)) (fun cdv A outer s H vs Q E hr h => ⟨t_lletters P K mg a.C a.Z a.BT a.BN a.PC a.VA a.BP a.f_place E, ?_, pure_lletters vs H Q E h⟩)
  exact (pss_cons (ps_set (i := 1) sc_lletters.nd rfl (.inl rfl) (pe_lst pa_nil))
      (pss_cons (ps_for PassesOwn.never rfl (pi_range1 rfl T.n_range (pa_cons (pe_callB call_lenA (by rfl) T.n_len boot_len (pa_cons (pv 0) pa_nil)) pa_nil)) (pg_name (i := 2) sc_lletters.nd rfl (.inl rfl)) (pss_cons (ps_if (pt_cmpR op_eq (pe_ix ix_1 (pv 0) (pv 2) (fun _ _ => rfl)) pe_int (nomark _)) (pss_one (ps_expr (pe_bm PySem.F.plainAttrs_list PySem.F.slot_list_append PySem.F.type_list_append mt_append (pv 1) (pa_cons (pe_ix ix_str pe_str (pv 2) (fun _ _ => rfl)) pa_nil)))) pss_nil)
      (pss_one (ps_if (pt_cmpR op_gt (pe_ix ix_1 (pv 0) (pv 2) (fun _ _ => rfl)) pe_int (nomark _)) (pss_one (ps_expr (pe_bm PySem.F.plainAttrs_list PySem.F.slot_list_append PySem.F.type_list_append mt_append (pv 1) (pa_cons (pe_op op_addT (pe_op op_addT (pe_ix ix_str pe_str (pv 2) (fun _ _ => rfl)) pe_str) (pe_callTy call_strI (by rfl) T.n_str (by decide +kernel) (pa_cons (pe_ix ix_1 (pv 0) (pv 2) (fun _ _ => rfl)) pa_nil))) pa_nil)))) pss_nil))))
      (pss_one (ps_ret (pe_m1 PySem.F.slot_str_join PySem.F.type_str_join mt_joinT pe_str (pv 1))))))
theorem ok_lexps (T : Txt P K mg a) : FnOk P w K mg base CX0 2 a.f_lexps a.d_lexps ["pool"] spLExps := by
  have G_take := ok_take (P := P) (w := w) (base := base) T
  refine T.F_lexps.ok sc_lexps (fun vs H Q E h => by first | (obtain ⟨rfl, _⟩ := h; rfl) | (obtain ⟨_, rfl, _⟩ := h; rfl) | (obtain ⟨_, _, rfl, _⟩ := h; rfl) | (obtain ⟨_, _, _, rfl, _⟩ := h; rfl) | (obtain ⟨_, _, _, _, rfl, _⟩ := h; rfl) | (obtain ⟨_, _, _, _, _, rfl, _⟩ := h; rfl) | (obtain ⟨_, _, _, _, _, _, rfl, _⟩ := h; rfl) | (obtain ⟨_, _, _, _, _, _, _, rfl, _⟩ := h; rfl) | (obtain ⟨_, _, _, _, _, _, _, _, rfl, _⟩ := h; rfl) | (obtain ⟨_, _, _, _, _, _, _, _, _, rfl, _⟩ := h; rfl)) (fun cdv A outer s H vs Q E hr h => ⟨t_lexps P K mg a.C a.Z a.BT a.BN a.PC a.VA a.BP a.f_place E, ?_, pure_lexps vs H Q E h⟩)
  exact (pss_cons (ps_set (i := 1) sc_lexps.nd rfl (.inl rfl) (pe_slice sl_A (pe_lst (pa_cons pe_int (pa_cons pe_int (pa_cons pe_int pa_nil)))) po_none (po_some (pe_op op_add pe_int (pe_call G_take (hr.mono (by decide)) rfl T.g_take T.k_take T.b_take .nil pass0 (pa_cons (pv 0) (pa_cons pe_int pa_nil)))))))
      (pss_cons (ps_for PassesOwn.never rfl (pi_range1 rfl T.n_range (pa_cons (pe_op op_add pe_int (pe_call G_take (hr.mono (by decide)) rfl T.g_take T.k_take T.b_take .nil pass0 (pa_cons (pv 0) (pa_cons pe_int pa_nil)))) pa_nil)) (pg_name (i := 2) sc_lexps.nd rfl (.inl rfl)) (pss_cons (ps_set (i := 3) sc_lexps.nd rfl (.inl rfl) (pe_call G_take (hr.mono (by decide)) rfl T.g_take T.k_take T.b_take .nil pass0 (pa_cons (pv 0) (pa_cons (pe_callB call_lenA (by rfl) T.n_len boot_len (pa_cons (pv 1) pa_nil)) pa_nil))))
      (pss_one (ps_asg (pe_op op_add (pe_ix ix_1 (pv 1) (pv 3) (fun _ _ => rfl)) pe_int) (pg_sub (pv 1) (pv 3) set_list)))))
      (pss_one (ps_ret (pe_callTy call_tupA (by rfl) T.n_tuple (by decide +kernel) (pa_cons (pv 1) pa_nil))))))
theorem ok_lpower (T : Txt P K mg a) : FnOk P w K mg base CX0 4 a.f_lpower a.d_lpower ["number", "count"] (spLPower a.C) := by
  have G_init := ok_init (P := P) (w := w) (base := base) T
  have G_mulw := ok_mulw (P := P) (w := w) (base := base) T
  refine T.F_lpower.ok sc_lpower (fun vs H Q E h => by first | (obtain ⟨rfl, _⟩ := h; rfl) | (obtain ⟨_, rfl, _⟩ := h; rfl) | (obtain ⟨_, _, rfl, _⟩ := h; rfl) | (obtain ⟨_, _, _, rfl, _⟩ := h; rfl) | (obtain ⟨_, _, _, _, rfl, _⟩ := h; rfl) | (obtain ⟨_, _, _, _, _, rfl, _⟩ := h; rfl) | (obtain ⟨_, _, _, _, _, _, rfl, _⟩ := h; rfl) | (obtain ⟨_, _, _, _, _, _, _, rfl, _⟩ := h; rfl) | (obtain ⟨_, _, _, _, _, _, _, _, rfl, _⟩ := h; rfl) | (obtain ⟨_, _, _, _, _, _, _, _, _, rfl, _⟩ := h; rfl)) (fun cdv A outer s H vs Q E hr h => ⟨t_lpower P K mg a.C a.Z a.BT a.BN a.PC a.VA a.BP a.f_place E, ?_, pure_lpower vs H Q E h⟩)
  exact (pss_cons (ps_set (i := 2) sc_lpower.nd rfl (.inl rfl) (pe_make T.mk_Ratio G_init (hr.mono (by decide)) rfl T.g_Ratio T.b_init1 T.v_init1 passLN (pa_cons pe_int pa_nil)))
      (pss_cons (ps_set (i := 3) sc_lpower.nd rfl (.inl rfl) (pv 0))
      (pss_cons (ps_set (i := 4) sc_lpower.nd rfl (.inl rfl) (pv 1))
      (pss_cons (ps_for PassesOwn.never rfl (pi_range1 rfl T.n_range (pa_cons pe_int pa_nil)) (pg_name (i := 5) sc_lpower.nd rfl (.inl rfl)) (pss_cons (ps_if (pt_cmpR op_eq (pe_op op_mod (pe_callTy call_int1 (by rfl) T.n_int (by decide +kernel) (pa_cons (pv 4) pa_nil)) pe_int) pe_int (nomark _)) (pss_one (ps_set (i := 2) sc_lpower.nd rfl (.inl rfl) (pe_op (op_own2 T.o_mulw G_mulw (hr.mono (by decide)) T.b_mulw pass0) (pv 2) (pv 3)))) pss_nil)
      (pss_cons (ps_set (i := 4) sc_lpower.nd rfl (.inl rfl) (pe_op op_fdivF (pv 4) pe_int))
      (pss_one (ps_if (pt_cmpR op_gt (pv 4) pe_int (nomark _)) (pss_one (ps_set (i := 3) sc_lpower.nd rfl (.inl rfl) (pe_op (op_own2 T.o_mulw G_mulw (hr.mono (by decide)) T.b_mulw pass0) (pv 3) (pv 3)))) pss_nil)))))
      (pss_one (ps_ret (pv 2)))))))
theorem ok_ldue (T : Txt P K mg a) : FnOk P w K mg base CX0 1 a.f_ldue a.d_ldue ["pair", "count"] spLDue := by
  refine T.F_ldue.ok sc_ldue (fun vs H Q E h => by first | (obtain ⟨rfl, _⟩ := h; rfl) | (obtain ⟨_, rfl, _⟩ := h; rfl) | (obtain ⟨_, _, rfl, _⟩ := h; rfl) | (obtain ⟨_, _, _, rfl, _⟩ := h; rfl) | (obtain ⟨_, _, _, _, rfl, _⟩ := h; rfl) | (obtain ⟨_, _, _, _, _, rfl, _⟩ := h; rfl) | (obtain ⟨_, _, _, _, _, _, rfl, _⟩ := h; rfl) | (obtain ⟨_, _, _, _, _, _, _, rfl, _⟩ := h; rfl) | (obtain ⟨_, _, _, _, _, _, _, _, rfl, _⟩ := h; rfl) | (obtain ⟨_, _, _, _, _, _, _, _, _, rfl, _⟩ := h; rfl)) (fun cdv A outer s H vs Q E hr h => ⟨t_ldue P K mg a.C a.Z a.BT a.BN a.PC a.VA a.BP a.f_place E, ?_, pure_ldue vs H Q E h⟩)
  exact (pss_cons (ps_set (i := 2) sc_ldue.nd rfl (.inl rfl) (pe_tup (pa_cons pe_int (pa_cons pe_int pa_nil))))
      (pss_cons (ps_for PassesOwn.never rfl (pi_range1 rfl T.n_range (pa_cons (pv 1) pa_nil)) (pg_name (i := 3) sc_ldue.nd rfl (.inl rfl)) (pss_one (ps_set (i := 2) sc_ldue.nd rfl (.inl rfl) (pe_tup (pa_cons (pe_op op_mulI (pe_ix ix_1 (pv 2) pe_int (fun _ _ => rfl)) (pe_ix ix_1 (pv 0) pe_int (fun _ _ => rfl))) (pa_cons (pe_op op_mulI (pe_ix ix_1 (pv 2) pe_int (fun _ _ => rfl)) (pe_ix ix_1 (pv 0) pe_int (fun _ _ => rfl))) pa_nil))))))
      (pss_one (ps_ret (pv 2)))))
theorem ok_lis (T : Txt P K mg a) : FnOk P w K mg base CX0 2 a.f_lis a.d_lis ["told", "pair"] (spLIs a.C) := by
  have G_integer := ok_integer (P := P) (w := w) (base := base) T
  refine T.F_lis.ok sc_lis (fun vs H Q E h => by first | (obtain ⟨rfl, _⟩ := h; rfl) | (obtain ⟨_, rfl, _⟩ := h; rfl) | (obtain ⟨_, _, rfl, _⟩ := h; rfl) | (obtain ⟨_, _, _, rfl, _⟩ := h; rfl) | (obtain ⟨_, _, _, _, rfl, _⟩ := h; rfl) | (obtain ⟨_, _, _, _, _, rfl, _⟩ := h; rfl) | (obtain ⟨_, _, _, _, _, _, rfl, _⟩ := h; rfl) | (obtain ⟨_, _, _, _, _, _, _, rfl, _⟩ := h; rfl) | (obtain ⟨_, _, _, _, _, _, _, _, rfl, _⟩ := h; rfl) | (obtain ⟨_, _, _, _, _, _, _, _, _, rfl, _⟩ := h; rfl)) (fun cdv A outer s H vs Q E hr h => ⟨t_lis P K mg a.C a.Z a.BT a.BN a.PC a.VA a.BP a.f_place E, ?_, pure_lis T.isa_Ratio vs H Q E h⟩)
  exact (pss_cons (ps_if (PW.pt (pw_or (pt_not (pt_val (pe_callB (call_isA T.isa_Ratio) (by rfl) T.n_isinstance (by decide +kernel) (pa_cons (pv 0) (pa_cons (pe_glob rfl T.g_Ratio rfl) pa_nil))))) (pw_or (pt_not (pt_val (pe_call G_integer (hr.mono (by decide)) rfl T.g_integer T.k_integer T.b_integer .nil pass0 (pa_cons (pe_fldA (pv 0) T.isa_Ratio.cl T.na_top rfl) pa_nil)))) (pw_or1 (pt_not (pt_val (pe_call G_integer (hr.mono (by decide)) rfl T.g_integer T.k_integer T.b_integer .nil pass0 (pa_cons (pe_fldA (pv 0) T.isa_Ratio.cl T.na_bottom rfl) pa_nil)))))))) (pss_one (ps_ret pe_bl)) pss_nil)
      (pss_one (ps_ret (pe_and (pe_cmpR op_eq (pe_fldA (pv 0) T.isa_Ratio.cl T.na_top rfl) (pe_ix ix_1 (pv 1) pe_int (fun _ _ => rfl)) (nomark _)) (pe_one (pe_cmpR op_eq (pe_fldA (pv 0) T.isa_Ratio.cl T.na_bottom rfl) (pe_ix ix_1 (pv 1) pe_int (fun _ _ => rfl)) (nomark _)))))))
theorem ok_lterm (T : Txt P K mg a) : FnOk P w K mg base CX0 1 a.f_lterm a.d_lterm ["text", "letters"] spLTerm := by
  refine T.F_lterm.ok sc_lterm (fun vs H Q E h => by first | (obtain ⟨rfl, _⟩ := h; rfl) | (obtain ⟨_, rfl, _⟩ := h; rfl) | (obtain ⟨_, _, rfl, _⟩ := h; rfl) | (obtain ⟨_, _, _, rfl, _⟩ := h; rfl) | (obtain ⟨_, _, _, _, rfl, _⟩ := h; rfl) | (obtain ⟨_, _, _, _, _, rfl, _⟩ := h; rfl) | (obtain ⟨_, _, _, _, _, _, rfl, _⟩ := h; rfl) | (obtain ⟨_, _, _, _, _, _, _, rfl, _⟩ := h; rfl) | (obtain ⟨_, _, _, _, _, _, _, _, rfl, _⟩ := h; rfl) | (obtain ⟨_, _, _, _, _, _, _, _, _, rfl, _⟩ := h; rfl)) (fun cdv A outer s H vs Q E hr h => ⟨t_lterm P K mg a.C a.Z a.BT a.BN a.PC a.VA a.BP a.f_place E, ?_, pure_lterm vs H Q E h⟩)
  exact (pss_cons (ps_if (pt_cmpR op_eq (pv 0) pe_str (nomark _)) (pss_one (ps_ret (pv 1))) pss_nil)
      (pss_cons (ps_if (pt_cmpR op_eq (pv 0) pe_str (nomark _)) (pss_one (ps_ret (pe_op op_addT pe_str (pv 1)))) pss_nil)
      (pss_one (ps_ret (pe_op op_addT (pe_op op_addT (pv 0) pe_str) (pv 1))))))
theorem ok_nonum (T : Txt P K mg a) : FnOk P w K mg base CX0 7 a.f_nonum a.d_nonum ["text"] (spNoNum a.C) := by
  have G_nread := ok_nread (P := P) (w := w) (base := base) T
  refine T.F_nonum.ok sc_nonum (fun vs H Q E h => by first | (obtain ⟨rfl, _⟩ := h; rfl) | (obtain ⟨_, rfl, _⟩ := h; rfl) | (obtain ⟨_, _, rfl, _⟩ := h; rfl) | (obtain ⟨_, _, _, rfl, _⟩ := h; rfl) | (obtain ⟨_, _, _, _, rfl, _⟩ := h; rfl) | (obtain ⟨_, _, _, _, _, rfl, _⟩ := h; rfl) | (obtain ⟨_, _, _, _, _, _, rfl, _⟩ := h; rfl) | (obtain ⟨_, _, _, _, _, _, _, rfl, _⟩ := h; rfl) | (obtain ⟨_, _, _, _, _, _, _, _, rfl, _⟩ := h; rfl) | (obtain ⟨_, _, _, _, _, _, _, _, _, rfl, _⟩ := h; rfl)) (fun cdv A outer s H vs Q E hr h => ⟨t_nonum a.BT P K mg a.C a.Z a.BT a.BN a.PC a.VA a.BP a.f_place E, ?_, pure_nonum T.exc.is T.exc.bt T.exc.ot vs H Q E h⟩)
  exact (pss_cons (ps_set (i := 1) sc_nonum.nd rfl (.inl rfl) pe_bl)
      (pss_cons (ps_try_as (i := 2) (tb := t_nonumb a.C a.BN) (ts := t_rightc K a.BN a.BT a.BP 2 1) (Wout := fun _ _ _ _ => False) rfl rfl sc_nonum.nd rfl rfl ⟨rfl, by decide, Or.inl T.g_BadNumber⟩ takes0
      (fun W pn xe tk _ => (pss_one (ps_expr (by exact (pe_sm rfl T.g_Ratio T.cr_Ratio T.sm_nread G_nread (hr.mono (by decide)) T.b_nread (fun σ => passAtW tk σ) (pa_cons (pv 0) pa_nil))))))
      (fun a0 oe cls d pn hz hf => (pss_one (ps_set (i := 1) sc_nonum.nd rfl (.inl rfl) (by exact (pe_and (pe_cmpR op_eq (pe_xf T.xf T.nt hz hf (pv 2)) (pv 0) (nomark _)) (pe_and (pe_callB (call_caughtD T.exc.cz hz hf) (by rfl) T.n_isinstance (by decide +kernel) (pa_cons (pv 2) (pa_cons (pe_glob rfl T.g_BadText rfl) pa_nil))) (pe_one (pe_not (pe_callB (call_caughtD T.exc.cz hz hf) (by rfl) T.n_isinstance (by decide +kernel) (pa_cons (pv 2) (pa_cons (pe_glob rfl T.g_BadPolynomial rfl) pa_nil))))))))))))
      (pss_one (ps_ret (pv 1)))))
theorem ok_nopol (T : Txt P K mg a) : FnOk P w K mg base CX0 12 a.f_nopol a.d_nopol ["text", "dimension"] (spNoPol a.C a.PC a.BP) := by
  have G_rpoly := ok_rpoly (P := P) (w := w) (base := base) T
  refine T.F_nopol.ok sc_nopol (fun vs H Q E h => by first | (obtain ⟨rfl, _⟩ := h; rfl) | (obtain ⟨_, rfl, _⟩ := h; rfl) | (obtain ⟨_, _, rfl, _⟩ := h; rfl) | (obtain ⟨_, _, _, rfl, _⟩ := h; rfl) | (obtain ⟨_, _, _, _, rfl, _⟩ := h; rfl) | (obtain ⟨_, _, _, _, _, rfl, _⟩ := h; rfl) | (obtain ⟨_, _, _, _, _, _, rfl, _⟩ := h; rfl) | (obtain ⟨_, _, _, _, _, _, _, rfl, _⟩ := h; rfl) | (obtain ⟨_, _, _, _, _, _, _, _, rfl, _⟩ := h; rfl) | (obtain ⟨_, _, _, _, _, _, _, _, _, rfl, _⟩ := h; rfl)) (fun cdv A outer s H vs Q E hr h => ⟨t_nopol a.BT P K mg a.C a.Z a.BT a.BN a.PC a.VA a.BP a.f_place E, ?_, pure_nopol T.excP.is T.excP.bt T.excP.ot vs H Q E h⟩)
  exact (pss_cons (ps_set (i := 2) sc_nopol.nd rfl (.inl rfl) pe_bl)
      (pss_cons (ps_try_as (i := 3) (tb := t_nopolb a.C a.PC a.BP) (ts := t_rightc K a.BP a.BT a.BN 3 2) (Wout := fun _ _ _ _ => False) rfl rfl sc_nopol.nd rfl rfl ⟨rfl, by decide, Or.inl T.g_BadPolynomial⟩ takes0
      (fun W pn xe tk _ => (pss_one (ps_expr (by exact (pe_callS G_rpoly (hr.mono (by decide)) rfl T.g_rpoly T.k_rpoly T.b_rpoly (fun σ => passAt tk σ) (pa_cons (pv 0) (pa_cons (pv 1) pa_nil)))))))
      (fun a0 oe cls d pn hz hf => (pss_one (ps_set (i := 2) sc_nopol.nd rfl (.inl rfl) (by exact (pe_and (pe_cmpR op_eq (pe_xf T.xfP T.ntP hz hf (pv 3)) (pv 0) (nomark _)) (pe_and (pe_callB (call_caughtD T.excP.cz hz hf) (by rfl) T.n_isinstance (by decide +kernel) (pa_cons (pv 3) (pa_cons (pe_glob rfl T.g_BadText rfl) pa_nil))) (pe_one (pe_not (pe_callB (call_caughtD T.excP.cz hz hf) (by rfl) T.n_isinstance (by decide +kernel) (pa_cons (pv 3) (pa_cons (pe_glob rfl T.g_BadNumber rfl) pa_nil))))))))))))
      (pss_one (ps_ret (pv 2)))))
theorem ok_law65 (T : Txt P K mg a) : FnOk P w K mg base CX0 13 a.f_law65 a.d_law65 ["script"] (spLaw K) := by
  have G_init := ok_init (P := P) (w := w) (base := base) T
  have G_ldrawn := ok_ldrawn (P := P) (w := w) (base := base) T
  have G_ldue := ok_ldue (P := P) (w := w) (base := base) T
  have G_lexps := ok_lexps (P := P) (w := w) (base := base) T
  have G_lis := ok_lis (P := P) (w := w) (base := base) T
  have G_lletters := ok_lletters (P := P) (w := w) (base := base) T
  have G_lpower := ok_lpower (P := P) (w := w) (base := base) T
  have G_lterm := ok_lterm (P := P) (w := w) (base := base) T
  have G_lwritten := ok_lwritten (P := P) (w := w) (base := base) T
  have G_nonum := ok_nonum (P := P) (w := w) (base := base) T
  have G_nopol := ok_nopol (P := P) (w := w) (base := base) T
  have G_nread := ok_nread (P := P) (w := w) (base := base) T
  have G_nstr := ok_nstr (P := P) (w := w) (base := base) T
  have G_peq := ok_peq (P := P) (w := w) (base := base) T
  have G_pinit := ok_pinit (P := P) (w := w) (base := base) T
  have G_pool := ok_pool (P := P) (w := w) (base := base) T
  have G_pstr := ok_pstr (P := P) (w := w) (base := base) T
  have G_rpoly := ok_rpoly (P := P) (w := w) (base := base) T
  have G_take := ok_take (P := P) (w := w) (base := base) T
  refine T.F_law65.ok sc_law65 (fun vs H Q E h => by first | (obtain ⟨rfl, _⟩ := h; rfl) | (obtain ⟨_, rfl, _⟩ := h; rfl) | (obtain ⟨_, _, rfl, _⟩ := h; rfl) | (obtain ⟨_, _, _, rfl, _⟩ := h; rfl) | (obtain ⟨_, _, _, _, rfl, _⟩ := h; rfl) | (obtain ⟨_, _, _, _, _, rfl, _⟩ := h; rfl) | (obtain ⟨_, _, _, _, _, _, rfl, _⟩ := h; rfl) | (obtain ⟨_, _, _, _, _, _, _, rfl, _⟩ := h; rfl) | (obtain ⟨_, _, _, _, _, _, _, _, rfl, _⟩ := h; rfl) | (obtain ⟨_, _, _, _, _, _, _, _, _, rfl, _⟩ := h; rfl)) (fun cdv A outer s H vs Q E hr h => ⟨t_law65 P K mg a.C a.Z a.BT a.BN a.PC a.VA a.BP a.f_place E, ?_, pure_law65 vs H Q E h⟩)
  exact (pss_cons (ps_set (i := 1) sc_law65.nd rfl (.inl rfl) (pe_call G_pool (hr.mono (by decide)) rfl T.g_pool T.k_pool T.b_pool .nil pass0 (pa_cons (pv 0) pa_nil)))
      (pss_cons (ps_set (i := 2) sc_law65.nd rfl (.inl rfl) (pe_call G_ldrawn (hr.mono (by decide)) rfl T.g_ldrawn T.k_ldrawn T.b_ldrawn .nil pass0 (pa_cons (pv 1) pa_nil)))
      (pss_cons (ps_set (i := 3) sc_law65.nd rfl (.inl rfl) (pe_op op_add pe_int (pe_call G_take (hr.mono (by decide)) rfl T.g_take T.k_take T.b_take .nil pass0 (pa_cons (pv 1) (pa_cons pe_int pa_nil)))))
      (pss_cons (ps_set (i := 4) sc_law65.nd rfl (.inl rfl) (pe_call G_lexps (hr.mono (by decide)) rfl T.g_lexps T.k_lexps T.b_lexps .nil pass0 (pa_cons (pv 1) pa_nil)))
      (pss_cons (ps_set (i := 5) sc_law65.nd rfl (.inl rfl) (pe_call G_lpower (hr.mono (by decide)) rfl T.g_lpower T.k_lpower T.b_lpower .nil pass0 (pa_cons (pe_makeN (n := 1) (ks := ["bottom"]) (g := fun us ws => us ++ ws) (gV := fun vs zs => vs ++ zs) T.mk_Ratio G_init (hr.mono (by decide)) rfl T.g_Ratio T.kb_init passLN (pa_cons (pe_ix ix_1 (pv 2) pe_int (fun _ _ => rfl)) pa_nil) (pk_cons (pe_ix ix_1 (pv 2) pe_int (fun _ _ => rfl)) pk_nil)) (pa_cons (pv 3) pa_nil))))
      (pss_cons (ps_set (i := 6) sc_law65.nd rfl (.inl rfl) (pe_call G_ldue (hr.mono (by decide)) rfl T.g_ldue T.k_ldue T.b_ldue .nil pass0 (pa_cons (pv 2) (pa_cons (pv 3) pa_nil))))
      (pss_cons (ps_set (i := 7) sc_law65.nd rfl (.inl rfl) (pe_call G_lwritten (hr.mono (by decide)) rfl T.g_lwritten T.k_lwritten T.b_lwritten .nil pass0 (pa_cons (pv 6) pa_nil)))
      (pss_cons (ps_if (PW.pt (pw_or (pt_not (pt_val (pe_call G_lis (hr.mono (by decide)) rfl T.g_lis T.k_lis T.b_lis .nil pass0 (pa_cons (pv 5) (pa_cons (pv 6) pa_nil))))) (pw_or1 (pt_cmpR op_ne (pe_callTy (call_strOwn T.o_nstr T.i_nstr G_nstr (hr.mono (by decide)) T.b_nstr pass0) (by rfl) T.n_str (by decide +kernel) (pa_cons (pv 5) pa_nil)) (pv 7) (nomark _))))) (pss_one (ps_ret pe_bl)) pss_nil)
      (pss_cons (ps_set (i := 8) sc_law65.nd rfl (.inl rfl) (pe_call G_lterm (hr.mono (by decide)) rfl T.g_lterm T.k_lterm T.b_lterm .nil pass0 (pa_cons (pv 7) (pa_cons (pe_call G_lletters (hr.mono (by decide)) rfl T.g_lletters T.k_lletters T.b_lletters .nil pass0 (pa_cons (pv 4) pa_nil)) pa_nil))))
      (pss_cons (ps_set (i := 9) sc_law65.nd rfl (.inl rfl) (pe_makeN (n := 1) (ks := ["terms"]) (g := fun us ws => us ++ ws) (gV := fun vs zs => vs ++ zs) T.mk_Polynomial G_pinit (hr.mono (by decide)) rfl T.g_Polynomial T.kb_pinit pass0 (pa_cons (pe_callB call_lenA (by rfl) T.n_len boot_len (pa_cons (pv 4) pa_nil)) pa_nil) (pk_cons (pe_lst (pa_cons (pe_tup (pa_cons (pv 4) (pa_cons (pv 5) pa_nil))) pa_nil)) pk_nil)))
      (pss_cons (ps_if (pt_cmpR op_ne (pe_callTy (call_strOwn T.o_pstr T.i_pstr G_pstr (hr.mono (by decide)) T.b_pstr pass0) (by rfl) T.n_str (by decide +kernel) (pa_cons (pv 9) pa_nil)) (pv 8) (nomark _)) (pss_one (ps_ret pe_bl)) pss_nil)
      (pss_cons (ps_if (PW.pt (pw_and (pt_cmpR op_lt (pe_callB call_abs (by rfl) T.n_abs (by decide +kernel) (pa_cons (pe_ix ix_1 (pv 6) pe_int (fun _ _ => rfl)) pa_nil)) (pe_op op_pow pe_int pe_int) (nomark _)) (pw_and1 (pt_cmpR op_lt (pe_ix ix_1 (pv 6) pe_int (fun _ _ => rfl)) (pe_op op_pow pe_int pe_int) (nomark _))))) (pss_one (ps_ret (pe_and (pe_call G_lis (hr.mono (by decide)) rfl T.g_lis T.k_lis T.b_lis .nil pass0 (pa_cons (pe_sm rfl T.g_Ratio T.cr_Ratio T.sm_nread G_nread (hr.mono (by decide)) T.b_nread (fun σ => passesAt_of passLN σ) (pa_cons (pv 7) pa_nil)) (pa_cons (pv 6) pa_nil))) (pe_one (pe_cmpR (cmp_own2 T.o_peq G_peq (hr.mono (by decide)) T.b_peq pass0) (pe_call G_rpoly (hr.mono (by decide)) rfl T.g_rpoly T.k_rpoly T.b_rpoly .nil passL (pa_cons (pv 8) (pa_cons (pe_callB call_lenA (by rfl) T.n_len boot_len (pa_cons (pv 4) pa_nil)) pa_nil))) (pv 9) (nomark _)))))) pss_nil)
      (pss_one (ps_ret (pe_and (pe_call G_nonum (hr.mono (by decide)) rfl T.g_nonum T.k_nonum T.b_nonum .nil pass0 (pa_cons (pv 7) pa_nil)) (pe_one (pe_call G_nopol (hr.mono (by decide)) rfl T.g_nopol T.k_nopol T.b_nopol .nil pass0 (pa_cons (pv 8) (pa_cons (pe_callB call_lenA (by rfl) T.n_len boot_len (pa_cons (pv 4) pa_nil)) pa_nil)))))))))))))))))))
end
end SpX

set_option Elab.async false
set_option linter.all false
set_option maxRecDepth 100000
set_option maxHeartbeats 4000000
namespace SpX
open PySem PySem.Spec L2 L2H
theorem kit_ref {K : PySem.W.Frag} {t : Value} {c : Addr} {b : Bool} (ne : t ≠ .ref c) (hd : PySem.W.hasDictIn K c = true) (ht : PySem.W.typeIn K (.ref c) = some (.type "type")) (hs : PySem.W.subIn K t (.ref c) = some b) : PySem.W.kitOne K t (.ref c) = some b := by
  obtain ⟨cd, hc, _⟩ := PySem.W.any_some hd
  have e1 : (t == Value.ref c) = false := Bool.eq_false_iff.mpr fun q => ne (beq_iff_eq.mp q)
  have e2 : ((PySem.W.clsIn K c).isSome && PySem.W.typeIn K (.ref c) == some (.type "type")) = true := by rw [hc, ht] <;> rfl
  unfold PySem.W.kitOne PySem.W.kitCls
  rw [e1, if_neg (by decide)]
  show (if ((PySem.W.clsIn K c).isSome && PySem.W.typeIn K (.ref c) == some (.type "type")) = true then PySem.W.subIn K t (.ref c) else none) = some b
  rw [if_pos e2]
  exact hs
theorem kit_tyr {K : PySem.W.Frag} {c : Addr} {T : String} {b : Bool} (hm : PySem.W.kitMeta T = true) (hs : PySem.W.subIn K (.ref c) (.type T) = some b) : PySem.W.kitOne K (.ref c) (.type T) = some b := by
  have e1 : (Value.ref c == Value.type T) = false := Bool.eq_false_iff.mpr fun q => by cases beq_iff_eq.mp q
  unfold PySem.W.kitOne PySem.W.kitCls
  rw [e1, if_neg (by decide)]
  show (if PySem.W.kitMeta T = true then PySem.W.subIn K (.ref c) (.type T) else none) = some b
  rw [if_pos hm]
  exact hs
theorem kit_other {K : PySem.W.Frag} {z c : Addr} (hz : PySem.W.subIn K (.ref z) (.ref z) = some true) (hs : PySem.W.subIn K (.ref z) (.ref c) = some false) (hd : PySem.W.hasDictIn K c = true) (ht : PySem.W.typeIn K (.ref c) = some (.type "type")) : PySem.W.kitOne K (.ref z) (.ref c) = some false :=
  kit_ref (fun e => by
    cases e
    rw [hz] at hs
    cases hs) hd ht hs

theorem kit_true {K : PySem.W.Frag} {z c : Addr} (hz : PySem.W.subIn K (.ref z) (.ref z) = some true) (hc : PySem.W.subIn K (.ref c) (.ref z) = some false) (hs : PySem.W.subIn K (.ref z) (.ref c) = some true) (hd : PySem.W.hasDictIn K c = true) (ht : PySem.W.typeIn K (.ref c) = some (.type "type")) : PySem.W.kitOne K (.ref z) (.ref c) = some true :=
  kit_ref (fun e => by
    cases e
    rw [hz] at hc
    cases hc) hd ht hs
/-- an own exception over ValueError, as it lies -/
def exOk (C : Addr) (cd : ClassData) (sl : Array (Option Value)) : Bool := match cd.mro, sl.toList with
  | .ref C' :: bm, [_, _, _, _, some (.builtin n), _] => C' == C && n == "ValueError.__new__" && !cd.hasDel && cd.hasDict && PySem.HandSPX.refsVE bm
  | _, _ => false
theorem exOk_cls {K : PySem.W.Frag} {C : Addr} {dd : Option Addr} {cd : ClassData} {sl : Array (Option Value)} (ho : K.lookup C = some ⟨.type "type", dd, .cls cd, sl⟩) (q : exOk C cd sl = true) :
    ∃ nm q N bs bm sn sub ab col dd k0 k1 k2 k3 k5, K.lookup C = some (excClassObj nm q C N bs bm true sn sub ab col dd k0 k1 k2 k3 k5 "ValueError.__new__") ∧ PySem.HandSPX.refsVE bm = true := by
  unfold exOk at q
  split at q
  · rename_i C' bm k0 k1 k2 k3 n k5 hm hs
    simp only [Bool.and_eq_true, beq_iff_eq, Bool.not_eq_true'] at q
    obtain ⟨⟨⟨⟨rfl, rfl⟩, hdel⟩, hdc⟩, ht⟩ := q
    obtain ⟨nm, bs, mro, ns, qn, hd, sn, sub, ab, col, del⟩ := cd
    dsimp only at hm hdel hdc
    subst hm hdel hdc
    have hsl : sl = #[k0, k1, k2, k3, some (.builtin "ValueError.__new__"), k5] := by
      obtain ⟨l⟩ := sl
      simp only at hs
      rw [hs]
    subst hsl
    exact ⟨nm, qn, ns, bs, bm, sn, sub, ab, col, dd, k0, k1, k2, k3, k5, ho, ht⟩
  · cases q
theorem super_of {K : PySem.W.Frag} {C D S : Addr} {oc oc' : Value} {od od' : Option Addr} {cd cd' : ClassData} {sl sl' : Array (Option Value)} {x : Str} {r : Option (Option Value)} (h : K.lookup C = some ⟨oc, od, .cls cd, sl⟩) (h' : K.lookup S = some ⟨oc', od', .cls cd', sl'⟩)
    (e : (cd.mro.dropWhile (· != .ref D)).drop 1 = cd'.mro) (f : PySem.W.findIn K (.ref S) x = r) : PySem.W.ks_superIn K C D x = r := by
  have hc : PySem.W.clsIn K C = some cd := by
    unfold PySem.W.clsIn
    rw [h]
  unfold PySem.W.ks_superIn
  rw [hc, Option.bind_some, e, ← f]
  show _ = (match K.lookup S with
      | some ⟨_, _, .cls cd, _⟩ => PySem.W.alongIn K x cd.mro
      | _ => none)
  rw [h']

theorem all_mk {P : Program} {w : World} {K : PySem.W.Frag} {h : Heap} {mg : Str → Option Value} {fa C PC Z BN BP BT LA SE VA pr dT dU et : Addr} {rest_nread : List Value} {odT odU odBN odBP odSE : Option Addr} {ocT ocU ocSE : Value} {cdBN cdBP cdSE : ClassData} {slT slU slVA slBN slBP slSE : Array (Option Value)} {nT nU nVA : Nat} {tkT tkx tky tkz tkLONGEST_READ tkBLOCK_DIGITS tkBLOCK tkDIMENSIONS tkGREATEST_DEGREE tkLONGEST_TEXT : Tok}
    {f_pool : Addr} {od_pool an_pool : Option Addr} {sl_pool : Array (Option Value)} {oc_pool kV_pool dc_pool pm_pool cd_pool ct_pool : Value}
    {f_take : Addr} {od_take an_take : Option Addr} {sl_take : Array (Option Value)} {oc_take kV_take dc_take pm_take cd_take ct_take : Value}
    {f_integer : Addr} {od_integer an_integer : Option Addr} {sl_integer : Array (Option Value)} {oc_integer kV_integer dc_integer pm_integer cd_integer ct_integer : Value}
    {f_common : Addr} {od_common an_common : Option Addr} {sl_common : Array (Option Value)} {oc_common kV_common dc_common pm_common cd_common ct_common : Value}
    {f_init : Addr} {od_init an_init : Option Addr} {sl_init : Array (Option Value)} {oc_init kV_init dc_init pm_init cd_init ct_init : Value}
    {f_mulw : Addr} {od_mulw an_mulw : Option Addr} {sl_mulw : Array (Option Value)} {oc_mulw kV_mulw dc_mulw pm_mulw cd_mulw ct_mulw : Value}
    {f_rmulw : Addr} {od_rmulw an_rmulw : Option Addr} {sl_rmulw : Array (Option Value)} {oc_rmulw kV_rmulw dc_rmulw pm_rmulw cd_rmulw ct_rmulw : Value}
    {f_neg : Addr} {od_neg an_neg : Option Addr} {sl_neg : Array (Option Value)} {oc_neg kV_neg dc_neg pm_neg cd_neg ct_neg : Value}
    {f_absw : Addr} {od_absw an_absw : Option Addr} {sl_absw : Array (Option Value)} {oc_absw kV_absw dc_absw pm_absw cd_absw ct_absw : Value}
    {f_eq : Addr} {od_eq an_eq : Option Addr} {sl_eq : Array (Option Value)} {oc_eq kV_eq dc_eq pm_eq cd_eq ct_eq : Value}
    {f_bool : Addr} {od_bool an_bool : Option Addr} {sl_bool : Array (Option Value)} {oc_bool kV_bool dc_bool pm_bool cd_bool ct_bool : Value}
    {f_sign : Addr} {od_sign an_sign : Option Addr} {sl_sign : Array (Option Value)} {oc_sign kV_sign dc_sign pm_sign cd_sign ct_sign : Value}
    {f_npowers : Addr} {od_npowers an_npowers : Option Addr} {sl_npowers : Array (Option Value)} {oc_npowers kV_npowers dc_npowers pm_npowers cd_npowers ct_npowers : Value}
    {f_nwint : Addr} {od_nwint an_nwint : Option Addr} {sl_nwint : Array (Option Value)} {oc_nwint kV_nwint dc_nwint pm_nwint cd_nwint ct_nwint : Value}
    {f_ncount : Addr} {od_ncount an_ncount : Option Addr} {sl_ncount : Array (Option Value)} {oc_ncount kV_ncount dc_ncount pm_ncount cd_ncount ct_ncount : Value}
    {f_nstr : Addr} {od_nstr an_nstr : Option Addr} {sl_nstr : Array (Option Value)} {oc_nstr kV_nstr dc_nstr pm_nstr cd_nstr ct_nstr : Value}
    {f_bt cda_bt cc_bt : Addr} {od_bt an_bt dD dE : Option Addr} {sl_bt slD slE : Array (Option Value)} {oc_bt kV_bt dc_bt pm_bt ct_bt clD clE : Value} {vsD : Array Value} {fileD : Str} {tfD : Tok}
    {f_nread : Addr} {od_nread an_nread : Option Addr} {sl_nread : Array (Option Value)} {oc_nread kV_nread dc_nread pm_nread cd_nread ct_nread : Value}
    {f_total : Addr} {od_total an_total : Option Addr} {sl_total : Array (Option Value)} {oc_total kV_total dc_total pm_total cd_total ct_total : Value}
    {f_chk3 : Addr} {od_chk3 an_chk3 : Option Addr} {sl_chk3 : Array (Option Value)} {oc_chk3 kV_chk3 dc_chk3 pm_chk3 cd_chk3 ct_chk3 : Value}
    {f_chke3 : Addr} {od_chke3 an_chke3 : Option Addr} {sl_chke3 : Array (Option Value)} {oc_chke3 kV_chke3 dc_chke3 pm_chke3 cd_chke3 ct_chke3 : Value}
    {f_chkx : Addr} {od_chkx an_chkx : Option Addr} {sl_chkx : Array (Option Value)} {oc_chkx kV_chkx dc_chkx pm_chkx cd_chkx ct_chkx : Value}
    {f_place : Addr} {od_place an_place : Option Addr} {sl_place : Array (Option Value)} {oc_place kV_place dc_place pm_place cd_place ct_place : Value}
    {f_pinit : Addr} {od_pinit an_pinit : Option Addr} {sl_pinit : Array (Option Value)} {oc_pinit kV_pinit dc_pinit pm_pinit cd_pinit ct_pinit : Value}
    {f_pterms : Addr} {od_pterms an_pterms : Option Addr} {sl_pterms : Array (Option Value)} {oc_pterms kV_pterms dc_pterms pm_pterms cd_pterms ct_pterms : Value}
    {f_peq : Addr} {od_peq an_peq : Option Addr} {sl_peq : Array (Option Value)} {oc_peq kV_peq dc_peq pm_peq cd_peq ct_peq : Value}
    {f_pwmon : Addr} {od_pwmon an_pwmon : Option Addr} {sl_pwmon : Array (Option Value)} {oc_pwmon kV_pwmon dc_pwmon pm_pwmon cd_pwmon ct_pwmon : Value}
    {f_pwsize : Addr} {od_pwsize an_pwsize : Option Addr} {sl_pwsize : Array (Option Value)} {oc_pwsize kV_pwsize dc_pwsize pm_pwsize cd_pwsize ct_pwsize : Value}
    {f_ppieces : Addr} {od_ppieces an_ppieces : Option Addr} {sl_ppieces : Array (Option Value)} {oc_ppieces kV_ppieces dc_ppieces pm_ppieces cd_ppieces ct_ppieces : Value}
    {f_pstr : Addr} {od_pstr an_pstr : Option Addr} {sl_pstr : Array (Option Value)} {oc_pstr kV_pstr dc_pstr pm_pstr cd_pstr ct_pstr : Value}
    {f_rpower : Addr} {od_rpower an_rpower : Option Addr} {sl_rpower : Array (Option Value)} {oc_rpower kV_rpower dc_rpower pm_rpower cd_rpower ct_rpower : Value}
    {f_rterm : Addr} {od_rterm an_rterm : Option Addr} {sl_rterm : Array (Option Value)} {oc_rterm kV_rterm dc_rterm pm_rterm cd_rterm ct_rterm : Value}
    {f_rterms : Addr} {od_rterms an_rterms : Option Addr} {sl_rterms : Array (Option Value)} {oc_rterms kV_rterms dc_rterms pm_rterms cd_rterms ct_rterms : Value}
    {f_rpoly : Addr} {od_rpoly an_rpoly : Option Addr} {sl_rpoly : Array (Option Value)} {oc_rpoly kV_rpoly dc_rpoly pm_rpoly cd_rpoly ct_rpoly : Value}
    {f_lfig : Addr} {od_lfig an_lfig : Option Addr} {sl_lfig : Array (Option Value)} {oc_lfig kV_lfig dc_lfig pm_lfig cd_lfig ct_lfig : Value}
    {f_ldrawn : Addr} {od_ldrawn an_ldrawn : Option Addr} {sl_ldrawn : Array (Option Value)} {oc_ldrawn kV_ldrawn dc_ldrawn pm_ldrawn cd_ldrawn ct_ldrawn : Value}
    {f_ltext : Addr} {od_ltext an_ltext : Option Addr} {sl_ltext : Array (Option Value)} {oc_ltext kV_ltext dc_ltext pm_ltext cd_ltext ct_ltext : Value}
    {f_lwritten : Addr} {od_lwritten an_lwritten : Option Addr} {sl_lwritten : Array (Option Value)} {oc_lwritten kV_lwritten dc_lwritten pm_lwritten cd_lwritten ct_lwritten : Value}
    {f_lletters : Addr} {od_lletters an_lletters : Option Addr} {sl_lletters : Array (Option Value)} {oc_lletters kV_lletters dc_lletters pm_lletters cd_lletters ct_lletters : Value}
    {f_lexps : Addr} {od_lexps an_lexps : Option Addr} {sl_lexps : Array (Option Value)} {oc_lexps kV_lexps dc_lexps pm_lexps cd_lexps ct_lexps : Value}
    {f_lpower : Addr} {od_lpower an_lpower : Option Addr} {sl_lpower : Array (Option Value)} {oc_lpower kV_lpower dc_lpower pm_lpower cd_lpower ct_lpower : Value}
    {f_ldue : Addr} {od_ldue an_ldue : Option Addr} {sl_ldue : Array (Option Value)} {oc_ldue kV_ldue dc_ldue pm_ldue cd_ldue ct_ldue : Value}
    {f_lis : Addr} {od_lis an_lis : Option Addr} {sl_lis : Array (Option Value)} {oc_lis kV_lis dc_lis pm_lis cd_lis ct_lis : Value}
    {f_lterm : Addr} {od_lterm an_lterm : Option Addr} {sl_lterm : Array (Option Value)} {oc_lterm kV_lterm dc_lterm pm_lterm cd_lterm ct_lterm : Value}
    {f_nonum : Addr} {od_nonum an_nonum : Option Addr} {sl_nonum : Array (Option Value)} {oc_nonum kV_nonum dc_nonum pm_nonum cd_nonum ct_nonum : Value}
    {f_nopol : Addr} {od_nopol an_nopol : Option Addr} {sl_nopol : Array (Option Value)} {oc_nopol kV_nopol dc_nopol pm_nopol cd_nopol ct_nopol : Value}
    {f_law65 : Addr} {od_law65 an_law65 : Option Addr} {sl_law65 : Array (Option Value)} {oc_law65 kV_law65 dc_law65 pm_law65 cd_law65 ct_law65 : Value}
    (X : K.In h) (G : h.Ns mainGlobals mg) (hfa : mg "law" = some (.ref fa))
    (gC : PySem.W.nsIn K mainGlobals "Ratio" = some (some (.ref C)))
    (gPC : PySem.W.nsIn K mainGlobals "Polynomial" = some (some (.ref PC)))
    (gZ : PySem.W.nsIn K mainGlobals "ZeroDivisor" = some (some (.ref Z)))
    (gBN : PySem.W.nsIn K mainGlobals "BadNumber" = some (some (.ref BN)))
    (gBP : PySem.W.nsIn K mainGlobals "BadPolynomial" = some (some (.ref BP)))
    (gBT : PySem.W.nsIn K mainGlobals "BadText" = some (some (.ref BT)))
    (gLA : PySem.W.nsIn K mainGlobals "TooLarge" = some (some (.ref LA)))
    (gSE : PySem.W.nsIn K mainGlobals "SpotError" = some (some (.ref SE)))
    (n_len : PySem.W.nsIn K mainGlobals "len" = some none)
    (n_abs : PySem.W.nsIn K mainGlobals "abs" = some none)
    (n_int : PySem.W.nsIn K mainGlobals "int" = some none)
    (n_list : PySem.W.nsIn K mainGlobals "list" = some none)
    (n_tuple : PySem.W.nsIn K mainGlobals "tuple" = some none)
    (n_sum : PySem.W.nsIn K mainGlobals "sum" = some none)
    (n_bool : PySem.W.nsIn K mainGlobals "bool" = some none)
    (n_max : PySem.W.nsIn K mainGlobals "max" = some none)
    (n_min : PySem.W.nsIn K mainGlobals "min" = some none)
    (n_isinstance : PySem.W.nsIn K mainGlobals "isinstance" = some none)
    (n_range : PySem.W.nsIn K mainGlobals "range" = some none)
    (n_zip : PySem.W.nsIn K mainGlobals "zip" = some none)
    (n_sorted : PySem.W.nsIn K mainGlobals "sorted" = some none)
    (n_str : PySem.W.nsIn K mainGlobals "str" = some none)
    (n_divmod : PySem.W.nsIn K mainGlobals "divmod" = some none)
    (n_super : PySem.W.nsIn K mainGlobals "super" = some none)
    (ggcd : PySem.W.nsIn K mainGlobals "gcd" = some (some (.builtin "math.gcd")))
    (cLONGEST_READ : PySem.W.nsIn K mainGlobals "LONGEST_READ" = some (some (.int 60 tkLONGEST_READ)))
    (cBLOCK_DIGITS : PySem.W.nsIn K mainGlobals "BLOCK_DIGITS" = some (some (.int 64 tkBLOCK_DIGITS)))
    (cBLOCK : PySem.W.nsIn K mainGlobals "BLOCK" = some (some (.int 10000000000000000000000000000000000000000000000000000000000000000 tkBLOCK)))
    (cDIMENSIONS : PySem.W.nsIn K mainGlobals "DIMENSIONS" = some (some (.int 3 tkDIMENSIONS)))
    (cGREATEST_DEGREE : PySem.W.nsIn K mainGlobals "GREATEST_DEGREE" = some (some (.int 16 tkGREATEST_DEGREE)))
    (cLONGEST_TEXT : PySem.W.nsIn K mainGlobals "LONGEST_TEXT" = some (some (.int 135660 tkLONGEST_TEXT)))
    (cVA : PySem.W.nsIn K mainGlobals "VARIABLES" = some (some (.ref VA)))
    (lVA : K.lookup VA = some ⟨.type "tuple", none, .seq #[.str "x" tkx, .str "y" tky, .str "z" tkz] nVA, slVA⟩)
    (cn : PySem.W.specialIn K (.builtin "object.__class__") "__get__" = some (some (.builtin "getset_descriptor.__get__")))
    (ct : PySem.W.takesIn K (.builtin "object.__class__") = some true)
    (pg : PySem.W.plainGet K C Str.empty = true)
    (hd : PySem.W.hasDictIn K C = true)
    (po : PySem.W.plainOver K C = true)
    (sa : PySem.W.findIn K (.ref C) "__setattr__" = some (some (.builtin "object.__setattr__")))
    (ca : PySem.W.findIn K (.ref C) "__class__" = some (some (.builtin "object.__class__")))
    (cm : PySem.W.mroIn K C (.type "object") = some true)
    (tC : PySem.W.typeIn K (.ref C) = some (.type "type"))
    (na_top : PySem.W.findIn K (.ref C) "top" = some none)
    (na_bottom : PySem.W.findIn K (.ref C) "bottom" = some none)
    (mk : PySem.W.makesIn K C = true)
    (kC : PySem.W.keepIn K (.ref C) = true)
    (su1 : PySem.W.subIn K (.type "int") (.ref C) = some false)
    (su2 : PySem.W.subIn K (.ref C) (.type "int") = some false)
    (ppg : PySem.W.plainGet K PC Str.empty = true)
    (phd : PySem.W.hasDictIn K PC = true)
    (ppo : PySem.W.plainOver K PC = true)
    (psa : PySem.W.findIn K (.ref PC) "__setattr__" = some (some (.builtin "object.__setattr__")))
    (pca : PySem.W.findIn K (.ref PC) "__class__" = some (some (.builtin "object.__class__")))
    (pcm : PySem.W.mroIn K PC (.type "object") = some true)
    (ptC : PySem.W.typeIn K (.ref PC) = some (.type "type"))
    (na_dimension : PySem.W.findIn K (.ref PC) "dimension" = some none)
    (na__pairs : PySem.W.findIn K (.ref PC) "_pairs" = some none)
    (na__numbers : PySem.W.findIn K (.ref PC) "_numbers" = some none)
    (pmk : PySem.W.makesIn K PC = true)
    (pkC : PySem.W.keepIn K (.ref PC) = true)
    (psu1 : PySem.W.subIn K (.type "int") (.ref PC) = some false)
    (psu2 : PySem.W.subIn K (.ref PC) (.type "int") = some false)
    (sf : PySem.W.selfFirst K C = true)
    (fm : PySem.W.findIn K (.ref C) "__format__" = some (some (.builtin "object.__format__")))
    (rdC : PySem.W.readsIn K C (.type "type") = true)
    (gaC : PySem.W.specialIn K (.ref C) "__getattribute__" = some (some (.builtin "type.__getattribute__")))
    (b1_mul : PySem.W.findIn K (.type "int") "__mul__" = some (some (.builtin "int.__mul__")))
    (b2_mul : PySem.W.findIn K (.type "int") "__rmul__" = some (some (.builtin "int.__rmul__")))
    (xZ : PySem.W.excIn K Z [.type "ValueError", .type "Exception", .type "BaseException", .type "object"] "ValueError.__new__" = true)
    (kZ : PySem.W.keepIn K (.ref Z) = true)
    (bZ : PySem.W.subIn K (.ref Z) (.type "BaseException") = some true)
    (tZ : PySem.W.typeIn K (.ref Z) = some (.type "type"))
    (lSE : K.lookup SE = some ⟨ocSE, odSE, .cls cdSE, slSE⟩)
    (zgBN : PySem.W.findIn K (.ref BN) "__getattribute__" = some (some (.builtin "BaseException.__getattribute__")))
    (zkBN : PySem.W.findIn K (.ref BN) "__getattr__" = some none)
    (zaBN : PySem.W.findIn K (.ref BN) "__class__" = some (some (.builtin "object.__class__")))
    (zsBN : PySem.W.findIn K (.ref BN) "__setattr__" = some (some (.builtin "object.__setattr__")))
    (ztBN : PySem.W.findIn K (.ref BN) "text" = some none)
    (zmBN : PySem.W.mroIn K BN (.type "object") = some true)
    (zbBN : PySem.W.mroIn K BN (.ref BT) = some true)
    (kBN : PySem.W.keepIn K (.ref BN) = true)
    (veBN : PySem.W.subIn K (.ref BN) (.type "ValueError") = some true)
    (zzBN : PySem.W.subIn K (.ref BN) (.ref BN) = some true)
    (sTBN : PySem.W.subIn K (.ref BN) (.ref BT) = some true)
    (rTBN : PySem.W.subIn K (.ref BT) (.ref BN) = some false)
    (aiBN : PySem.W.findIn K (.ref BN) "__init__" = some (some (.ref f_bt)))
    (lBN : K.lookup BN = some ⟨.type "type", odBN, .cls cdBN, slBN⟩)
    (qBN : exOk BN cdBN slBN = true)
    (drBN : (cdBN.mro.dropWhile (· != .ref BT)).drop 1 = cdSE.mro)
    (zgBP : PySem.W.findIn K (.ref BP) "__getattribute__" = some (some (.builtin "BaseException.__getattribute__")))
    (zkBP : PySem.W.findIn K (.ref BP) "__getattr__" = some none)
    (zaBP : PySem.W.findIn K (.ref BP) "__class__" = some (some (.builtin "object.__class__")))
    (zsBP : PySem.W.findIn K (.ref BP) "__setattr__" = some (some (.builtin "object.__setattr__")))
    (ztBP : PySem.W.findIn K (.ref BP) "text" = some none)
    (zmBP : PySem.W.mroIn K BP (.type "object") = some true)
    (zbBP : PySem.W.mroIn K BP (.ref BT) = some true)
    (kBP : PySem.W.keepIn K (.ref BP) = true)
    (veBP : PySem.W.subIn K (.ref BP) (.type "ValueError") = some true)
    (zzBP : PySem.W.subIn K (.ref BP) (.ref BP) = some true)
    (sTBP : PySem.W.subIn K (.ref BP) (.ref BT) = some true)
    (rTBP : PySem.W.subIn K (.ref BT) (.ref BP) = some false)
    (aiBP : PySem.W.findIn K (.ref BP) "__init__" = some (some (.ref f_bt)))
    (lBP : K.lookup BP = some ⟨.type "type", odBP, .cls cdBP, slBP⟩)
    (qBP : exOk BP cdBP slBP = true)
    (drBP : (cdBP.mro.dropWhile (· != .ref BT)).drop 1 = cdSE.mro)
    (bBBN : PySem.W.subIn K (.ref BN) (.type "BaseException") = some true)
    (bBBP : PySem.W.subIn K (.ref BP) (.type "BaseException") = some true)
    (bBLA : PySem.W.subIn K (.ref LA) (.type "BaseException") = some true)
    (dBN : PySem.W.hasDictIn K BN = true)
    (tBN : PySem.W.typeIn K (.ref BN) = some (.type "type"))
    (dBP : PySem.W.hasDictIn K BP = true)
    (tBP : PySem.W.typeIn K (.ref BP) = some (.type "type"))
    (dLA : PySem.W.hasDictIn K LA = true)
    (tLA : PySem.W.typeIn K (.ref LA) = some (.type "type"))
    (dBT : PySem.W.hasDictIn K BT = true)
    (tBT : PySem.W.typeIn K (.ref BT) = some (.type "type"))
    (sNP : PySem.W.subIn K (.ref BN) (.ref BP) = some false)
    (sPN : PySem.W.subIn K (.ref BP) (.ref BN) = some false)
    (sNL : PySem.W.subIn K (.ref BN) (.ref LA) = some false)
    (fSE : PySem.W.findIn K (.ref SE) "__init__" = some (some (.builtin "ValueError.__init__")))
    (any : PySem.W.nsIn K cStatics "thirdparty.any" = some none)
    (ptop : (P.main.scope.names.lookup ("super" : Str)).isSome = false)
    (a_pool : PySem.W.nsIn K mainGlobals "_law_pool" = some (some (.ref f_pool)))
    (l_pool : K.lookup f_pool = some ⟨oc_pool, od_pool, .func (PySem.W.fnOf "_law_pool" "_law_pool" (defArgs s_pool) (defBody s_pool) (defScope s_pool) .none kV_pool dc_pool pm_pool an_pool cd_pool ct_pool), sl_pool⟩)
    (c_pool : PySem.W.codeIn K cd_pool "_law_pool" = true)
    (k_pool : PySem.W.keepIn K (.ref f_pool) = true)
    (a_take : PySem.W.nsIn K mainGlobals "_law_take" = some (some (.ref f_take)))
    (l_take : K.lookup f_take = some ⟨oc_take, od_take, .func (PySem.W.fnOf "_law_take" "_law_take" (defArgs s_take) (defBody s_take) (defScope s_take) .none kV_take dc_take pm_take an_take cd_take ct_take), sl_take⟩)
    (c_take : PySem.W.codeIn K cd_take "_law_take" = true)
    (k_take : PySem.W.keepIn K (.ref f_take) = true)
    (a_integer : PySem.W.nsIn K mainGlobals "_law_integer" = some (some (.ref f_integer)))
    (l_integer : K.lookup f_integer = some ⟨oc_integer, od_integer, .func (PySem.W.fnOf "_law_integer" "_law_integer" (defArgs s_integer) (defBody s_integer) (defScope s_integer) .none kV_integer dc_integer pm_integer an_integer cd_integer ct_integer), sl_integer⟩)
    (c_integer : PySem.W.codeIn K cd_integer "_law_integer" = true)
    (k_integer : PySem.W.keepIn K (.ref f_integer) = true)
    (a_common : PySem.W.nsIn K mainGlobals "_law_common" = some (some (.ref f_common)))
    (l_common : K.lookup f_common = some ⟨oc_common, od_common, .func (PySem.W.fnOf "_law_common" "_law_common" (defArgs s_common) (defBody s_common) (defScope s_common) .none kV_common dc_common pm_common an_common cd_common ct_common), sl_common⟩)
    (c_common : PySem.W.codeIn K cd_common "_law_common" = true)
    (k_common : PySem.W.keepIn K (.ref f_common) = true)
    (a_init : PySem.W.findIn K (.ref C) "__init__" = some (some (.ref f_init)))
    (i_init : PySem.W.isFn K (.ref f_init) = true)
    (l_init : K.lookup f_init = some ⟨oc_init, od_init, .func (PySem.W.fnOf "__init__" "Ratio.__init__" (defArgs s_init) (defBody s_init) (defScope s_init) (.ref dT) kV_init dc_init pm_init an_init cd_init ct_init), sl_init⟩)
    (c_init : PySem.W.codeIn K cd_init "Ratio.__init__" = true)
    (k_init : PySem.W.keepIn K (.ref f_init) = true)
    (a_mulw : PySem.W.findIn K (.ref C) "__mul__" = some (some (.ref f_mulw)))
    (i_mulw : PySem.W.isFn K (.ref f_mulw) = true)
    (l_mulw : K.lookup f_mulw = some ⟨oc_mulw, od_mulw, .func (PySem.W.fnOf "__mul__" "Ratio.__mul__" (defArgs s_mulw) (defBody s_mulw) (defScope s_mulw) .none kV_mulw dc_mulw pm_mulw an_mulw cd_mulw ct_mulw), sl_mulw⟩)
    (c_mulw : PySem.W.codeIn K cd_mulw "Ratio.__mul__" = true)
    (k_mulw : PySem.W.keepIn K (.ref f_mulw) = true)
    (a_rmulw : PySem.W.findIn K (.ref C) "__rmul__" = some (some (.ref f_rmulw)))
    (i_rmulw : PySem.W.isFn K (.ref f_rmulw) = true)
    (l_rmulw : K.lookup f_rmulw = some ⟨oc_rmulw, od_rmulw, .func (PySem.W.fnOf "__rmul__" "Ratio.__rmul__" (defArgs s_rmulw) (defBody s_rmulw) (defScope s_rmulw) .none kV_rmulw dc_rmulw pm_rmulw an_rmulw cd_rmulw ct_rmulw), sl_rmulw⟩)
    (c_rmulw : PySem.W.codeIn K cd_rmulw "Ratio.__rmul__" = true)
    (k_rmulw : PySem.W.keepIn K (.ref f_rmulw) = true)
    (a_neg : PySem.W.findIn K (.ref C) "__neg__" = some (some (.ref f_neg)))
    (i_neg : PySem.W.isFn K (.ref f_neg) = true)
    (l_neg : K.lookup f_neg = some ⟨oc_neg, od_neg, .func (PySem.W.fnOf "__neg__" "Ratio.__neg__" (defArgs s_neg) (defBody s_neg) (defScope s_neg) .none kV_neg dc_neg pm_neg an_neg cd_neg ct_neg), sl_neg⟩)
    (c_neg : PySem.W.codeIn K cd_neg "Ratio.__neg__" = true)
    (k_neg : PySem.W.keepIn K (.ref f_neg) = true)
    (a_absw : PySem.W.findIn K (.ref C) "__abs__" = some (some (.ref f_absw)))
    (i_absw : PySem.W.isFn K (.ref f_absw) = true)
    (l_absw : K.lookup f_absw = some ⟨oc_absw, od_absw, .func (PySem.W.fnOf "__abs__" "Ratio.__abs__" (defArgs s_absw) (defBody s_absw) (defScope s_absw) .none kV_absw dc_absw pm_absw an_absw cd_absw ct_absw), sl_absw⟩)
    (c_absw : PySem.W.codeIn K cd_absw "Ratio.__abs__" = true)
    (k_absw : PySem.W.keepIn K (.ref f_absw) = true)
    (a_eq : PySem.W.findIn K (.ref C) "__eq__" = some (some (.ref f_eq)))
    (i_eq : PySem.W.isFn K (.ref f_eq) = true)
    (l_eq : K.lookup f_eq = some ⟨oc_eq, od_eq, .func (PySem.W.fnOf "__eq__" "Ratio.__eq__" (defArgs s_eq) (defBody s_eq) (defScope s_eq) .none kV_eq dc_eq pm_eq an_eq cd_eq ct_eq), sl_eq⟩)
    (c_eq : PySem.W.codeIn K cd_eq "Ratio.__eq__" = true)
    (k_eq : PySem.W.keepIn K (.ref f_eq) = true)
    (a_bool : PySem.W.findIn K (.ref C) "__bool__" = some (some (.ref f_bool)))
    (i_bool : PySem.W.isFn K (.ref f_bool) = true)
    (l_bool : K.lookup f_bool = some ⟨oc_bool, od_bool, .func (PySem.W.fnOf "__bool__" "Ratio.__bool__" (defArgs s_bool) (defBody s_bool) (defScope s_bool) .none kV_bool dc_bool pm_bool an_bool cd_bool ct_bool), sl_bool⟩)
    (c_bool : PySem.W.codeIn K cd_bool "Ratio.__bool__" = true)
    (k_bool : PySem.W.keepIn K (.ref f_bool) = true)
    (a_sign : PySem.W.findIn K (.ref C) "sign" = some (some (.ref f_sign)))
    (i_sign : PySem.W.isFn K (.ref f_sign) = true)
    (l_sign : K.lookup f_sign = some ⟨oc_sign, od_sign, .func (PySem.W.fnOf "sign" "Ratio.sign" (defArgs s_sign) (defBody s_sign) (defScope s_sign) .none kV_sign dc_sign pm_sign an_sign cd_sign ct_sign), sl_sign⟩)
    (c_sign : PySem.W.codeIn K cd_sign "Ratio.sign" = true)
    (k_sign : PySem.W.keepIn K (.ref f_sign) = true)
    (a_npowers : PySem.W.nsIn K mainGlobals "_block_powers" = some (some (.ref f_npowers)))
    (l_npowers : K.lookup f_npowers = some ⟨oc_npowers, od_npowers, .func (PySem.W.fnOf "_block_powers" "_block_powers" (defArgs s_npowers) (defBody s_npowers) (defScope s_npowers) .none kV_npowers dc_npowers pm_npowers an_npowers cd_npowers ct_npowers), sl_npowers⟩)
    (c_npowers : PySem.W.codeIn K cd_npowers "_block_powers" = true)
    (k_npowers : PySem.W.keepIn K (.ref f_npowers) = true)
    (a_nwint : PySem.W.nsIn K mainGlobals "written_integer" = some (some (.ref f_nwint)))
    (l_nwint : K.lookup f_nwint = some ⟨oc_nwint, od_nwint, .func (PySem.W.fnOf "written_integer" "written_integer" (defArgs s_nwint) (defBody s_nwint) (defScope s_nwint) .none kV_nwint dc_nwint pm_nwint an_nwint cd_nwint ct_nwint), sl_nwint⟩)
    (c_nwint : PySem.W.codeIn K cd_nwint "written_integer" = true)
    (k_nwint : PySem.W.keepIn K (.ref f_nwint) = true)
    (a_ncount : PySem.W.nsIn K mainGlobals "_is_count" = some (some (.ref f_ncount)))
    (l_ncount : K.lookup f_ncount = some ⟨oc_ncount, od_ncount, .func (PySem.W.fnOf "_is_count" "_is_count" (defArgs s_ncount) (defBody s_ncount) (defScope s_ncount) .none kV_ncount dc_ncount pm_ncount an_ncount cd_ncount ct_ncount), sl_ncount⟩)
    (c_ncount : PySem.W.codeIn K cd_ncount "_is_count" = true)
    (k_ncount : PySem.W.keepIn K (.ref f_ncount) = true)
    (a_nstr : PySem.W.findIn K (.ref C) "__str__" = some (some (.ref f_nstr)))
    (i_nstr : PySem.W.isFn K (.ref f_nstr) = true)
    (l_nstr : K.lookup f_nstr = some ⟨oc_nstr, od_nstr, .func (PySem.W.fnOf "__str__" "Ratio.__str__" (defArgs s_nstr) (defBody s_nstr) (defScope s_nstr) .none kV_nstr dc_nstr pm_nstr an_nstr cd_nstr ct_nstr), sl_nstr⟩)
    (c_nstr : PySem.W.codeIn K cd_nstr "Ratio.__str__" = true)
    (k_nstr : PySem.W.keepIn K (.ref f_nstr) = true)
    (ti_bt : PySem.W.typeIn K (.ref f_bt) = some (.type "function"))
    (l_bt : K.lookup f_bt = some ⟨oc_bt, od_bt, .func (PySem.W.ksFn "__init__" "BadText.__init__" (defArgs s_bt) (defBody s_bt) (defScope s_bt) .none kV_bt dc_bt pm_bt an_bt (.ref cda_bt) ct_bt cc_bt), sl_bt⟩)
    (c_bt : PySem.W.codeIn K (.ref cda_bt) "BadText.__init__" = true)
    (lcd : K.lookup cda_bt = some ⟨clD, dD, .fields vsD, slD⟩)
    (vcd : vsD[2]? = some (.str fileD tfD))
    (fcd : ((P.main.file : Str) == fileD) = true)
    (lcc : K.lookup cc_bt = some ⟨clE, dE, .cell (some (.ref BT)), slE⟩)
    (a_nread : PySem.W.findCls K (.ref C) (.type "type") "read" = some (.get (.builtin "staticmethod.__get__") (.ref pr) .none (.ref C)))
    (r_nread : PySem.W.recIn K pr "staticmethod" = some (.ref f_nread :: rest_nread))
    (l_nread : K.lookup f_nread = some ⟨oc_nread, od_nread, .func (PySem.W.fnOf "read" "Ratio.read" (defArgs s_nread) (defBody s_nread) (defScope s_nread) .none kV_nread dc_nread pm_nread an_nread cd_nread ct_nread), sl_nread⟩)
    (c_nread : PySem.W.codeIn K cd_nread "Ratio.read" = true)
    (k_nread : PySem.W.keepIn K (.ref f_nread) = true)
    (a_total : PySem.W.nsIn K mainGlobals "total" = some (some (.ref f_total)))
    (l_total : K.lookup f_total = some ⟨oc_total, od_total, .func (PySem.W.fnOf "total" "total" (defArgs s_total) (defBody s_total) (defScope s_total) .none kV_total dc_total pm_total an_total cd_total ct_total), sl_total⟩)
    (c_total : PySem.W.codeIn K cd_total "total" = true)
    (k_total : PySem.W.keepIn K (.ref f_total) = true)
    (a_chk3 : PySem.W.nsIn K mainGlobals "check_dimension" = some (some (.ref f_chk3)))
    (l_chk3 : K.lookup f_chk3 = some ⟨oc_chk3, od_chk3, .func (PySem.W.fnOf "check_dimension" "check_dimension" (defArgs s_chk3) (defBody s_chk3) (defScope s_chk3) .none kV_chk3 dc_chk3 pm_chk3 an_chk3 cd_chk3 ct_chk3), sl_chk3⟩)
    (c_chk3 : PySem.W.codeIn K cd_chk3 "check_dimension" = true)
    (k_chk3 : PySem.W.keepIn K (.ref f_chk3) = true)
    (a_chke3 : PySem.W.nsIn K mainGlobals "check_entries" = some (some (.ref f_chke3)))
    (l_chke3 : K.lookup f_chke3 = some ⟨oc_chke3, od_chke3, .func (PySem.W.fnOf "check_entries" "check_entries" (defArgs s_chke3) (defBody s_chke3) (defScope s_chke3) .none kV_chke3 dc_chke3 pm_chke3 an_chke3 cd_chke3 ct_chke3), sl_chke3⟩)
    (c_chke3 : PySem.W.codeIn K cd_chke3 "check_entries" = true)
    (k_chke3 : PySem.W.keepIn K (.ref f_chke3) = true)
    (a_chkx : PySem.W.nsIn K mainGlobals "check_exponents" = some (some (.ref f_chkx)))
    (l_chkx : K.lookup f_chkx = some ⟨oc_chkx, od_chkx, .func (PySem.W.fnOf "check_exponents" "check_exponents" (defArgs s_chkx) (defBody s_chkx) (defScope s_chkx) .none kV_chkx dc_chkx pm_chkx an_chkx cd_chkx ct_chkx), sl_chkx⟩)
    (c_chkx : PySem.W.codeIn K cd_chkx "check_exponents" = true)
    (k_chkx : PySem.W.keepIn K (.ref f_chkx) = true)
    (a_place : PySem.W.nsIn K mainGlobals "standard_place" = some (some (.ref f_place)))
    (l_place : K.lookup f_place = some ⟨oc_place, od_place, .func (PySem.W.fnOf "standard_place" "standard_place" (defArgs s_place) (defBody s_place) (defScope s_place) .none kV_place dc_place pm_place an_place cd_place ct_place), sl_place⟩)
    (c_place : PySem.W.codeIn K cd_place "standard_place" = true)
    (k_place : PySem.W.keepIn K (.ref f_place) = true)
    (a_pinit : PySem.W.findIn K (.ref PC) "__init__" = some (some (.ref f_pinit)))
    (i_pinit : PySem.W.isFn K (.ref f_pinit) = true)
    (l_pinit : K.lookup f_pinit = some ⟨oc_pinit, od_pinit, .func (PySem.W.fnOf "__init__" "Polynomial.__init__" (defArgs s_pinit) (defBody s_pinit) (defScope s_pinit) (.ref dU) kV_pinit dc_pinit pm_pinit an_pinit cd_pinit ct_pinit), sl_pinit⟩)
    (c_pinit : PySem.W.codeIn K cd_pinit "Polynomial.__init__" = true)
    (k_pinit : PySem.W.keepIn K (.ref f_pinit) = true)
    (a_pterms : PySem.W.findIn K (.ref PC) "terms" = some (some (.ref f_pterms)))
    (i_pterms : PySem.W.isFn K (.ref f_pterms) = true)
    (l_pterms : K.lookup f_pterms = some ⟨oc_pterms, od_pterms, .func (PySem.W.fnOf "terms" "Polynomial.terms" (defArgs s_pterms) (defBody s_pterms) (defScope s_pterms) .none kV_pterms dc_pterms pm_pterms an_pterms cd_pterms ct_pterms), sl_pterms⟩)
    (c_pterms : PySem.W.codeIn K cd_pterms "Polynomial.terms" = true)
    (k_pterms : PySem.W.keepIn K (.ref f_pterms) = true)
    (a_peq : PySem.W.findIn K (.ref PC) "__eq__" = some (some (.ref f_peq)))
    (i_peq : PySem.W.isFn K (.ref f_peq) = true)
    (l_peq : K.lookup f_peq = some ⟨oc_peq, od_peq, .func (PySem.W.fnOf "__eq__" "Polynomial.__eq__" (defArgs s_peq) (defBody s_peq) (defScope s_peq) .none kV_peq dc_peq pm_peq an_peq cd_peq ct_peq), sl_peq⟩)
    (c_peq : PySem.W.codeIn K cd_peq "Polynomial.__eq__" = true)
    (k_peq : PySem.W.keepIn K (.ref f_peq) = true)
    (a_pwmon : PySem.W.nsIn K mainGlobals "_written_monomial" = some (some (.ref f_pwmon)))
    (l_pwmon : K.lookup f_pwmon = some ⟨oc_pwmon, od_pwmon, .func (PySem.W.fnOf "_written_monomial" "_written_monomial" (defArgs s_pwmon) (defBody s_pwmon) (defScope s_pwmon) .none kV_pwmon dc_pwmon pm_pwmon an_pwmon cd_pwmon ct_pwmon), sl_pwmon⟩)
    (c_pwmon : PySem.W.codeIn K cd_pwmon "_written_monomial" = true)
    (k_pwmon : PySem.W.keepIn K (.ref f_pwmon) = true)
    (a_pwsize : PySem.W.nsIn K mainGlobals "_written_size" = some (some (.ref f_pwsize)))
    (l_pwsize : K.lookup f_pwsize = some ⟨oc_pwsize, od_pwsize, .func (PySem.W.fnOf "_written_size" "_written_size" (defArgs s_pwsize) (defBody s_pwsize) (defScope s_pwsize) .none kV_pwsize dc_pwsize pm_pwsize an_pwsize cd_pwsize ct_pwsize), sl_pwsize⟩)
    (c_pwsize : PySem.W.codeIn K cd_pwsize "_written_size" = true)
    (k_pwsize : PySem.W.keepIn K (.ref f_pwsize) = true)
    (a_ppieces : PySem.W.nsIn K mainGlobals "_written_pieces" = some (some (.ref f_ppieces)))
    (l_ppieces : K.lookup f_ppieces = some ⟨oc_ppieces, od_ppieces, .func (PySem.W.fnOf "_written_pieces" "_written_pieces" (defArgs s_ppieces) (defBody s_ppieces) (defScope s_ppieces) .none kV_ppieces dc_ppieces pm_ppieces an_ppieces cd_ppieces ct_ppieces), sl_ppieces⟩)
    (c_ppieces : PySem.W.codeIn K cd_ppieces "_written_pieces" = true)
    (k_ppieces : PySem.W.keepIn K (.ref f_ppieces) = true)
    (a_pstr : PySem.W.findIn K (.ref PC) "__str__" = some (some (.ref f_pstr)))
    (i_pstr : PySem.W.isFn K (.ref f_pstr) = true)
    (l_pstr : K.lookup f_pstr = some ⟨oc_pstr, od_pstr, .func (PySem.W.fnOf "__str__" "Polynomial.__str__" (defArgs s_pstr) (defBody s_pstr) (defScope s_pstr) .none kV_pstr dc_pstr pm_pstr an_pstr cd_pstr ct_pstr), sl_pstr⟩)
    (c_pstr : PySem.W.codeIn K cd_pstr "Polynomial.__str__" = true)
    (k_pstr : PySem.W.keepIn K (.ref f_pstr) = true)
    (a_rpower : PySem.W.nsIn K mainGlobals "_read_power" = some (some (.ref f_rpower)))
    (l_rpower : K.lookup f_rpower = some ⟨oc_rpower, od_rpower, .func (PySem.W.fnOf "_read_power" "_read_power" (defArgs s_rpower) (defBody s_rpower) (defScope s_rpower) .none kV_rpower dc_rpower pm_rpower an_rpower cd_rpower ct_rpower), sl_rpower⟩)
    (c_rpower : PySem.W.codeIn K cd_rpower "_read_power" = true)
    (k_rpower : PySem.W.keepIn K (.ref f_rpower) = true)
    (a_rterm : PySem.W.nsIn K mainGlobals "_read_term" = some (some (.ref f_rterm)))
    (l_rterm : K.lookup f_rterm = some ⟨oc_rterm, od_rterm, .func (PySem.W.fnOf "_read_term" "_read_term" (defArgs s_rterm) (defBody s_rterm) (defScope s_rterm) .none kV_rterm dc_rterm pm_rterm an_rterm cd_rterm ct_rterm), sl_rterm⟩)
    (c_rterm : PySem.W.codeIn K cd_rterm "_read_term" = true)
    (k_rterm : PySem.W.keepIn K (.ref f_rterm) = true)
    (a_rterms : PySem.W.nsIn K mainGlobals "_read_terms" = some (some (.ref f_rterms)))
    (l_rterms : K.lookup f_rterms = some ⟨oc_rterms, od_rterms, .func (PySem.W.fnOf "_read_terms" "_read_terms" (defArgs s_rterms) (defBody s_rterms) (defScope s_rterms) .none kV_rterms dc_rterms pm_rterms an_rterms cd_rterms ct_rterms), sl_rterms⟩)
    (c_rterms : PySem.W.codeIn K cd_rterms "_read_terms" = true)
    (k_rterms : PySem.W.keepIn K (.ref f_rterms) = true)
    (a_rpoly : PySem.W.nsIn K mainGlobals "read_polynomial" = some (some (.ref f_rpoly)))
    (l_rpoly : K.lookup f_rpoly = some ⟨oc_rpoly, od_rpoly, .func (PySem.W.fnOf "read_polynomial" "read_polynomial" (defArgs s_rpoly) (defBody s_rpoly) (defScope s_rpoly) .none kV_rpoly dc_rpoly pm_rpoly an_rpoly cd_rpoly ct_rpoly), sl_rpoly⟩)
    (c_rpoly : PySem.W.codeIn K cd_rpoly "read_polynomial" = true)
    (k_rpoly : PySem.W.keepIn K (.ref f_rpoly) = true)
    (a_lfig : PySem.W.nsIn K mainGlobals "_law_figures" = some (some (.ref f_lfig)))
    (l_lfig : K.lookup f_lfig = some ⟨oc_lfig, od_lfig, .func (PySem.W.fnOf "_law_figures" "_law_figures" (defArgs s_lfig) (defBody s_lfig) (defScope s_lfig) .none kV_lfig dc_lfig pm_lfig an_lfig cd_lfig ct_lfig), sl_lfig⟩)
    (c_lfig : PySem.W.codeIn K cd_lfig "_law_figures" = true)
    (k_lfig : PySem.W.keepIn K (.ref f_lfig) = true)
    (a_ldrawn : PySem.W.nsIn K mainGlobals "_law_drawn" = some (some (.ref f_ldrawn)))
    (l_ldrawn : K.lookup f_ldrawn = some ⟨oc_ldrawn, od_ldrawn, .func (PySem.W.fnOf "_law_drawn" "_law_drawn" (defArgs s_ldrawn) (defBody s_ldrawn) (defScope s_ldrawn) .none kV_ldrawn dc_ldrawn pm_ldrawn an_ldrawn cd_ldrawn ct_ldrawn), sl_ldrawn⟩)
    (c_ldrawn : PySem.W.codeIn K cd_ldrawn "_law_drawn" = true)
    (k_ldrawn : PySem.W.keepIn K (.ref f_ldrawn) = true)
    (a_ltext : PySem.W.nsIn K mainGlobals "_law_text" = some (some (.ref f_ltext)))
    (l_ltext : K.lookup f_ltext = some ⟨oc_ltext, od_ltext, .func (PySem.W.fnOf "_law_text" "_law_text" (defArgs s_ltext) (defBody s_ltext) (defScope s_ltext) .none kV_ltext dc_ltext pm_ltext an_ltext cd_ltext ct_ltext), sl_ltext⟩)
    (c_ltext : PySem.W.codeIn K cd_ltext "_law_text" = true)
    (k_ltext : PySem.W.keepIn K (.ref f_ltext) = true)
    (a_lwritten : PySem.W.nsIn K mainGlobals "_law_written" = some (some (.ref f_lwritten)))
    (l_lwritten : K.lookup f_lwritten = some ⟨oc_lwritten, od_lwritten, .func (PySem.W.fnOf "_law_written" "_law_written" (defArgs s_lwritten) (defBody s_lwritten) (defScope s_lwritten) .none kV_lwritten dc_lwritten pm_lwritten an_lwritten cd_lwritten ct_lwritten), sl_lwritten⟩)
    (c_lwritten : PySem.W.codeIn K cd_lwritten "_law_written" = true)
    (k_lwritten : PySem.W.keepIn K (.ref f_lwritten) = true)
    (a_lletters : PySem.W.nsIn K mainGlobals "_law_letters" = some (some (.ref f_lletters)))
    (l_lletters : K.lookup f_lletters = some ⟨oc_lletters, od_lletters, .func (PySem.W.fnOf "_law_letters" "_law_letters" (defArgs s_lletters) (defBody s_lletters) (defScope s_lletters) .none kV_lletters dc_lletters pm_lletters an_lletters cd_lletters ct_lletters), sl_lletters⟩)
    (c_lletters : PySem.W.codeIn K cd_lletters "_law_letters" = true)
    (k_lletters : PySem.W.keepIn K (.ref f_lletters) = true)
    (a_lexps : PySem.W.nsIn K mainGlobals "_law_exponents" = some (some (.ref f_lexps)))
    (l_lexps : K.lookup f_lexps = some ⟨oc_lexps, od_lexps, .func (PySem.W.fnOf "_law_exponents" "_law_exponents" (defArgs s_lexps) (defBody s_lexps) (defScope s_lexps) .none kV_lexps dc_lexps pm_lexps an_lexps cd_lexps ct_lexps), sl_lexps⟩)
    (c_lexps : PySem.W.codeIn K cd_lexps "_law_exponents" = true)
    (k_lexps : PySem.W.keepIn K (.ref f_lexps) = true)
    (a_lpower : PySem.W.nsIn K mainGlobals "_law_power_of" = some (some (.ref f_lpower)))
    (l_lpower : K.lookup f_lpower = some ⟨oc_lpower, od_lpower, .func (PySem.W.fnOf "_law_power_of" "_law_power_of" (defArgs s_lpower) (defBody s_lpower) (defScope s_lpower) .none kV_lpower dc_lpower pm_lpower an_lpower cd_lpower ct_lpower), sl_lpower⟩)
    (c_lpower : PySem.W.codeIn K cd_lpower "_law_power_of" = true)
    (k_lpower : PySem.W.keepIn K (.ref f_lpower) = true)
    (a_ldue : PySem.W.nsIn K mainGlobals "_law_due" = some (some (.ref f_ldue)))
    (l_ldue : K.lookup f_ldue = some ⟨oc_ldue, od_ldue, .func (PySem.W.fnOf "_law_due" "_law_due" (defArgs s_ldue) (defBody s_ldue) (defScope s_ldue) .none kV_ldue dc_ldue pm_ldue an_ldue cd_ldue ct_ldue), sl_ldue⟩)
    (c_ldue : PySem.W.codeIn K cd_ldue "_law_due" = true)
    (k_ldue : PySem.W.keepIn K (.ref f_ldue) = true)
    (a_lis : PySem.W.nsIn K mainGlobals "_law_is" = some (some (.ref f_lis)))
    (l_lis : K.lookup f_lis = some ⟨oc_lis, od_lis, .func (PySem.W.fnOf "_law_is" "_law_is" (defArgs s_lis) (defBody s_lis) (defScope s_lis) .none kV_lis dc_lis pm_lis an_lis cd_lis ct_lis), sl_lis⟩)
    (c_lis : PySem.W.codeIn K cd_lis "_law_is" = true)
    (k_lis : PySem.W.keepIn K (.ref f_lis) = true)
    (a_lterm : PySem.W.nsIn K mainGlobals "_law_term" = some (some (.ref f_lterm)))
    (l_lterm : K.lookup f_lterm = some ⟨oc_lterm, od_lterm, .func (PySem.W.fnOf "_law_term" "_law_term" (defArgs s_lterm) (defBody s_lterm) (defScope s_lterm) .none kV_lterm dc_lterm pm_lterm an_lterm cd_lterm ct_lterm), sl_lterm⟩)
    (c_lterm : PySem.W.codeIn K cd_lterm "_law_term" = true)
    (k_lterm : PySem.W.keepIn K (.ref f_lterm) = true)
    (a_nonum : PySem.W.nsIn K mainGlobals "_law_no_number" = some (some (.ref f_nonum)))
    (l_nonum : K.lookup f_nonum = some ⟨oc_nonum, od_nonum, .func (PySem.W.fnOf "_law_no_number" "_law_no_number" (defArgs s_nonum) (defBody s_nonum) (defScope s_nonum) .none kV_nonum dc_nonum pm_nonum an_nonum cd_nonum ct_nonum), sl_nonum⟩)
    (c_nonum : PySem.W.codeIn K cd_nonum "_law_no_number" = true)
    (k_nonum : PySem.W.keepIn K (.ref f_nonum) = true)
    (a_nopol : PySem.W.nsIn K mainGlobals "_law_no_polynomial" = some (some (.ref f_nopol)))
    (l_nopol : K.lookup f_nopol = some ⟨oc_nopol, od_nopol, .func (PySem.W.fnOf "_law_no_polynomial" "_law_no_polynomial" (defArgs s_nopol) (defBody s_nopol) (defScope s_nopol) .none kV_nopol dc_nopol pm_nopol an_nopol cd_nopol ct_nopol), sl_nopol⟩)
    (c_nopol : PySem.W.codeIn K cd_nopol "_law_no_polynomial" = true)
    (k_nopol : PySem.W.keepIn K (.ref f_nopol) = true)
    (a_law65 : PySem.W.nsIn K mainGlobals "law" = some (some (.ref f_law65)))
    (l_law65 : K.lookup f_law65 = some ⟨oc_law65, od_law65, .func (PySem.W.fnOf "law" "law" (defArgs s_law65) (defBody s_law65) (defScope s_law65) .none kV_law65 dc_law65 pm_law65 an_law65 cd_law65 ct_law65), sl_law65⟩)
    (c_law65 : PySem.W.codeIn K cd_law65 "law" = true)
    (k_law65 : PySem.W.keepIn K (.ref f_law65) = true)
    (lt : K.lookup dT = some ⟨ocT, odT, .seq #[.int 1 tkT] nT, slT⟩)
    (lu : K.lookup dU = some ⟨ocU, odU, .seq #[.ref et] nU, slU⟩)
    : ∃ fd : FuncData, (∀ (s : Shared) (v : Value), BindsTo s fd ⟨[v], []⟩ [("script", v)]) ∧ ∀ base : Heap, K.In base → base.Ns mainGlobals mg → FnOk P w K mg base CX0 13 fa fd ["script"] (spLaw K) := by
  have e := hfa.symm.trans (PySem.W.mg_of X G a_law65)
  obtain rfl : f_law65 = fa := by
    cases e
    rfl
  have F_pool := fun_mk (st := s_pool) l_pool c_pool k_pool
  have b_pool := F_pool.binds (ps := ["script"]) fun _ _ _ _ _ _ us hl => match us, hl with | [_], _ => rfl
  have F_take := fun_mk (st := s_take) l_take c_take k_take
  have b_take := F_take.binds (ps := ["pool", "most"]) fun _ _ _ _ _ _ us hl => match us, hl with | [_, _], _ => rfl
  have F_integer := fun_mk (st := s_integer) l_integer c_integer k_integer
  have b_integer := F_integer.binds (ps := ["thing"]) fun _ _ _ _ _ _ us hl => match us, hl with | [_], _ => rfl
  have F_common := fun_mk (st := s_common) l_common c_common k_common
  have b_common := F_common.binds (ps := ["one", "two"]) fun _ _ _ _ _ _ us hl => match us, hl with | [_, _], _ => rfl
  have F_init : FunD K "__init__" "Ratio.__init__" (defArgs s_init) (defBody s_init) (defScope s_init) [.int 1] [] f_init _ :=
    ⟨⟨oc_init, od_init, .ref dT, kV_init, dc_init, pm_init, an_init, cd_init, ct_init, sl_init, rfl, l_init, c_init, .inr ⟨by simp, dT, _, [.int 1 tkT], nT, rfl, lt, rfl, .cons ⟨tkT, rfl⟩ .nil⟩, .inl rfl⟩, k_init⟩
  obtain ⟨d0, v0, b_init⟩ := F_init.binds1 (ps := ["self", "top", "bottom"]) 3 1 (by simp) rfl fun T kV doc pm an cdv ct us its h1 h2 => match us, h1, its, h2 with | [_, _, _], _, [_], _ => ⟨_, rfl, rfl⟩
  have z0 : d0 = [] := by
    cases v0
    rfl
  subst z0
  obtain ⟨ds, v_init1, b_init1⟩ := F_init.binds1 (ps := ["self", "top", "bottom"]) 2 0 (by simp) rfl fun T kV doc pm an cdv ct us its h1 h2 => match us, h1, its, h2 with | [_, _], _, [_], _ => ⟨_, rfl, rfl⟩
  obtain ⟨_, kb_init⟩ := F_init.kbindsD (ps := ["self", "top", "bottom"]) 2 ["bottom"] (fun us _ ws => us ++ ws) (by simp) (fun r1 _ r3 => r1.append r3) fun T kV doc pm an cdv ct us its ws h1 h2 h3 => match us, h1, its, h2, ws, h3 with | [_, _], _, [_], _, [_], _ => ⟨_, rfl, rfl⟩
  have F_mulw := fun_mk (st := s_mulw) l_mulw c_mulw k_mulw
  have b_mulw := F_mulw.binds (ps := ["self", "other"]) fun _ _ _ _ _ _ us hl => match us, hl with | [_, _], _ => rfl
  have F_rmulw := fun_mk (st := s_rmulw) l_rmulw c_rmulw k_rmulw
  have b_rmulw := F_rmulw.binds (ps := ["self", "other"]) fun _ _ _ _ _ _ us hl => match us, hl with | [_, _], _ => rfl
  have F_neg := fun_mk (st := s_neg) l_neg c_neg k_neg
  have b_neg := F_neg.binds (ps := ["self"]) fun _ _ _ _ _ _ us hl => match us, hl with | [_], _ => rfl
  have F_absw := fun_mk (st := s_absw) l_absw c_absw k_absw
  have b_absw := F_absw.binds (ps := ["self"]) fun _ _ _ _ _ _ us hl => match us, hl with | [_], _ => rfl
  have F_eq := fun_mk (st := s_eq) l_eq c_eq k_eq
  have b_eq := F_eq.binds (ps := ["self", "other"]) fun _ _ _ _ _ _ us hl => match us, hl with | [_, _], _ => rfl
  have F_bool := fun_mk (st := s_bool) l_bool c_bool k_bool
  have b_bool := F_bool.binds (ps := ["self"]) fun _ _ _ _ _ _ us hl => match us, hl with | [_], _ => rfl
  have F_sign := fun_mk (st := s_sign) l_sign c_sign k_sign
  have b_sign := F_sign.binds (ps := ["self"]) fun _ _ _ _ _ _ us hl => match us, hl with | [_], _ => rfl
  have F_npowers := fun_mk (st := s_npowers) l_npowers c_npowers k_npowers
  have b_npowers := F_npowers.binds (ps := ["size"]) fun _ _ _ _ _ _ us hl => match us, hl with | [_], _ => rfl
  have F_nwint := fun_mk (st := s_nwint) l_nwint c_nwint k_nwint
  have b_nwint := F_nwint.binds (ps := ["number"]) fun _ _ _ _ _ _ us hl => match us, hl with | [_], _ => rfl
  have F_ncount := fun_mk (st := s_ncount) l_ncount c_ncount k_ncount
  have b_ncount := F_ncount.binds (ps := ["text"]) fun _ _ _ _ _ _ us hl => match us, hl with | [_], _ => rfl
  have F_nstr := fun_mk (st := s_nstr) l_nstr c_nstr k_nstr
  have b_nstr := F_nstr.binds (ps := ["self"]) fun _ _ _ _ _ _ us hl => match us, hl with | [_], _ => rfl
  have b_bt : Binds K (PySem.W.ksFn "__init__" "BadText.__init__" (defArgs s_bt) (defBody s_bt) (defScope s_bt) .none kV_bt dc_bt pm_bt an_bt (.ref cda_bt) ct_bt cc_bt) ["self", "text"] [] := Binds.all fun us hl => match us, hl with | [_, _], _ => rfl
  have F_nread := fun_mk (st := s_nread) l_nread c_nread k_nread
  have b_nread := F_nread.binds (ps := ["text"]) fun _ _ _ _ _ _ us hl => match us, hl with | [_], _ => rfl
  have F_total := fun_mk (st := s_total) l_total c_total k_total
  have b_total := F_total.binds (ps := ["numbers"]) fun _ _ _ _ _ _ us hl => match us, hl with | [_], _ => rfl
  have F_chk3 := fun_mk (st := s_chk3) l_chk3 c_chk3 k_chk3
  have b_chk3 := F_chk3.binds (ps := ["dimension"]) fun _ _ _ _ _ _ us hl => match us, hl with | [_], _ => rfl
  have F_chke3 := fun_mk (st := s_chke3) l_chke3 c_chke3 k_chke3
  have b_chke3 := F_chke3.binds (ps := ["entries", "dimension"]) fun _ _ _ _ _ _ us hl => match us, hl with | [_, _], _ => rfl
  have F_chkx := fun_mk (st := s_chkx) l_chkx c_chkx k_chkx
  have b_chkx := F_chkx.binds (ps := ["exponents", "dimension"]) fun _ _ _ _ _ _ us hl => match us, hl with | [_, _], _ => rfl
  have F_place := fun_mk (st := s_place) l_place c_place k_place
  have b_place := F_place.binds (ps := ["exponents"]) fun _ _ _ _ _ _ us hl => match us, hl with | [_], _ => rfl
  have F_pinit : FunD K "__init__" "Polynomial.__init__" (defArgs s_pinit) (defBody s_pinit) (defScope s_pinit) [.ref et] [] f_pinit _ :=
    ⟨⟨oc_pinit, od_pinit, .ref dU, kV_pinit, dc_pinit, pm_pinit, an_pinit, cd_pinit, ct_pinit, sl_pinit, rfl, l_pinit, c_pinit, .inr ⟨by simp, dU, _, [.ref et], nU, rfl, lu, rfl, .cons rfl .nil⟩, .inl rfl⟩, k_pinit⟩
  obtain ⟨d1, v1, b_pinit⟩ := F_pinit.binds1 (ps := ["self", "dimension", "terms"]) 3 1 (by simp) rfl fun T kV doc pm an cdv ct us its h1 h2 => match us, h1, its, h2 with | [_, _, _], _, [_], _ => ⟨_, rfl, rfl⟩
  have z1 : d1 = [] := by
    cases v1
    rfl
  subst z1
  obtain ⟨_, kb_pinit⟩ := F_pinit.kbindsD (ps := ["self", "dimension", "terms"]) 2 ["terms"] (fun us _ ws => us ++ ws) (by simp) (fun r1 _ r3 => r1.append r3) fun T kV doc pm an cdv ct us its ws h1 h2 h3 => match us, h1, its, h2, ws, h3 with | [_, _], _, [_], _, [_], _ => ⟨_, rfl, rfl⟩
  have F_pterms := fun_mk (st := s_pterms) l_pterms c_pterms k_pterms
  have b_pterms := F_pterms.binds (ps := ["self"]) fun _ _ _ _ _ _ us hl => match us, hl with | [_], _ => rfl
  have F_peq := fun_mk (st := s_peq) l_peq c_peq k_peq
  have b_peq := F_peq.binds (ps := ["self", "other"]) fun _ _ _ _ _ _ us hl => match us, hl with | [_, _], _ => rfl
  have F_pwmon := fun_mk (st := s_pwmon) l_pwmon c_pwmon k_pwmon
  have b_pwmon := F_pwmon.binds (ps := ["exponents"]) fun _ _ _ _ _ _ us hl => match us, hl with | [_], _ => rfl
  have F_pwsize := fun_mk (st := s_pwsize) l_pwsize c_pwsize k_pwsize
  have b_pwsize := F_pwsize.binds (ps := ["number", "monomial"]) fun _ _ _ _ _ _ us hl => match us, hl with | [_, _], _ => rfl
  have F_ppieces := fun_mk (st := s_ppieces) l_ppieces c_ppieces k_ppieces
  have b_ppieces := F_ppieces.binds (ps := ["terms"]) fun _ _ _ _ _ _ us hl => match us, hl with | [_], _ => rfl
  have F_pstr := fun_mk (st := s_pstr) l_pstr c_pstr k_pstr
  have b_pstr := F_pstr.binds (ps := ["self"]) fun _ _ _ _ _ _ us hl => match us, hl with | [_], _ => rfl
  have F_rpower := fun_mk (st := s_rpower) l_rpower c_rpower k_rpower
  have b_rpower := F_rpower.binds (ps := ["word", "dimension"]) fun _ _ _ _ _ _ us hl => match us, hl with | [_, _], _ => rfl
  have F_rterm := fun_mk (st := s_rterm) l_rterm c_rterm k_rterm
  have b_rterm := F_rterm.binds (ps := ["words", "sign", "dimension"]) fun _ _ _ _ _ _ us hl => match us, hl with | [_, _, _], _ => rfl
  have F_rterms := fun_mk (st := s_rterms) l_rterms c_rterms k_rterms
  have b_rterms := F_rterms.binds (ps := ["text", "dimension"]) fun _ _ _ _ _ _ us hl => match us, hl with | [_, _], _ => rfl
  have F_rpoly := fun_mk (st := s_rpoly) l_rpoly c_rpoly k_rpoly
  have b_rpoly := F_rpoly.binds (ps := ["text", "dimension"]) fun _ _ _ _ _ _ us hl => match us, hl with | [_, _], _ => rfl
  have F_lfig := fun_mk (st := s_lfig) l_lfig c_lfig k_lfig
  have b_lfig := F_lfig.binds (ps := ["pool"]) fun _ _ _ _ _ _ us hl => match us, hl with | [_], _ => rfl
  have F_ldrawn := fun_mk (st := s_ldrawn) l_ldrawn c_ldrawn k_ldrawn
  have b_ldrawn := F_ldrawn.binds (ps := ["pool"]) fun _ _ _ _ _ _ us hl => match us, hl with | [_], _ => rfl
  have F_ltext := fun_mk (st := s_ltext) l_ltext c_ltext k_ltext
  have b_ltext := F_ltext.binds (ps := ["number"]) fun _ _ _ _ _ _ us hl => match us, hl with | [_], _ => rfl
  have F_lwritten := fun_mk (st := s_lwritten) l_lwritten c_lwritten k_lwritten
  have b_lwritten := F_lwritten.binds (ps := ["pair"]) fun _ _ _ _ _ _ us hl => match us, hl with | [_], _ => rfl
  have F_lletters := fun_mk (st := s_lletters) l_lletters c_lletters k_lletters
  have b_lletters := F_lletters.binds (ps := ["exponents"]) fun _ _ _ _ _ _ us hl => match us, hl with | [_], _ => rfl
  have F_lexps := fun_mk (st := s_lexps) l_lexps c_lexps k_lexps
  have b_lexps := F_lexps.binds (ps := ["pool"]) fun _ _ _ _ _ _ us hl => match us, hl with | [_], _ => rfl
  have F_lpower := fun_mk (st := s_lpower) l_lpower c_lpower k_lpower
  have b_lpower := F_lpower.binds (ps := ["number", "count"]) fun _ _ _ _ _ _ us hl => match us, hl with | [_, _], _ => rfl
  have F_ldue := fun_mk (st := s_ldue) l_ldue c_ldue k_ldue
  have b_ldue := F_ldue.binds (ps := ["pair", "count"]) fun _ _ _ _ _ _ us hl => match us, hl with | [_, _], _ => rfl
  have F_lis := fun_mk (st := s_lis) l_lis c_lis k_lis
  have b_lis := F_lis.binds (ps := ["told", "pair"]) fun _ _ _ _ _ _ us hl => match us, hl with | [_, _], _ => rfl
  have F_lterm := fun_mk (st := s_lterm) l_lterm c_lterm k_lterm
  have b_lterm := F_lterm.binds (ps := ["text", "letters"]) fun _ _ _ _ _ _ us hl => match us, hl with | [_, _], _ => rfl
  have F_nonum := fun_mk (st := s_nonum) l_nonum c_nonum k_nonum
  have b_nonum := F_nonum.binds (ps := ["text"]) fun _ _ _ _ _ _ us hl => match us, hl with | [_], _ => rfl
  have F_nopol := fun_mk (st := s_nopol) l_nopol c_nopol k_nopol
  have b_nopol := F_nopol.binds (ps := ["text", "dimension"]) fun _ _ _ _ _ _ us hl => match us, hl with | [_, _], _ => rfl
  have F_law65 := fun_mk (st := s_law65) l_law65 c_law65 k_law65
  have b_law65 := F_law65.binds (ps := ["script"]) fun _ _ _ _ _ _ us hl => match us, hl with | [_], _ => rfl
  have cBN := exOk_cls lBN qBN
  have oBN : OexC K BN := ⟨cBN, zsBN, bBBN, tBN, kBN⟩
  have sBN : SupC P K mg BN BT := ⟨cBN, (PySem.W.any_some dBT).elim fun cd h => ⟨cd, h.1⟩, zbBN, super_of lBN lSE drBN fSE, veBN, any, PySem.W.mg_none_of X G n_super, ptop⟩
  have cBP := exOk_cls lBP qBP
  have oBP : OexC K BP := ⟨cBP, zsBP, bBBP, tBP, kBP⟩
  have sBP : SupC P K mg BP BT := ⟨cBP, (PySem.W.any_some dBT).elim fun cd h => ⟨cd, h.1⟩, zbBP, super_of lBP lSE drBP fSE, veBP, any, PySem.W.mg_none_of X G n_super, ptop⟩
  have e64 : (10 : Int) ^ 64 = 10000000000000000000000000000000000000000000000000000000000000000 := by decide +kernel
  have m1 := PySem.W.exm_ref bBBN dBN tBN zzBN
  have m2 := PySem.W.exm_ref bBBP dBP tBP sNP
  have m3 := PySem.W.exm_ref bBLA dLA tLA sNL
  have hm : PySem.W.exmAny K (.ref BN) [.ref BN, .ref BP, .ref LA] = some true := by
    unfold PySem.W.exmAny
    rw [m1]
    unfold PySem.W.exmAny
    rw [m2]
    unfold PySem.W.exmAny
    rw [m3]
    rfl
  have tv : ∀ H : Hp, SqT K H VA (names3.map V.str) := fun H => .inr ⟨_, _, _, lVA, rfl, rfl, by show 3 ≤ sizeLine; decide, .cons ⟨tkx, rfl⟩ (.cons ⟨tky, rfl⟩ (.cons ⟨tkz, rfl⟩ .nil))⟩
  have ty : ∀ H : Hp, tyV K "tuple" (.ref VA) H := fun H => .inr (.inl ⟨rfl, _, lVA, rfl, rfl⟩)
  have T : Txt P K mg {
      C := C,
      Z := Z,
      PC := PC,
      VA := VA,
      BN := BN,
      BP := BP,
      BT := BT,
      LA := LA,
      pr := pr,
      et := et,
      ds := ds,
      f_pool := f_pool,
      d_pool := PySem.W.fnOf "_law_pool" "_law_pool" (defArgs s_pool) (defBody s_pool) (defScope s_pool) .none kV_pool dc_pool pm_pool an_pool cd_pool ct_pool,
      f_take := f_take,
      d_take := PySem.W.fnOf "_law_take" "_law_take" (defArgs s_take) (defBody s_take) (defScope s_take) .none kV_take dc_take pm_take an_take cd_take ct_take,
      f_integer := f_integer,
      d_integer := PySem.W.fnOf "_law_integer" "_law_integer" (defArgs s_integer) (defBody s_integer) (defScope s_integer) .none kV_integer dc_integer pm_integer an_integer cd_integer ct_integer,
      f_common := f_common,
      d_common := PySem.W.fnOf "_law_common" "_law_common" (defArgs s_common) (defBody s_common) (defScope s_common) .none kV_common dc_common pm_common an_common cd_common ct_common,
      f_init := f_init,
      d_init := PySem.W.fnOf "__init__" "Ratio.__init__" (defArgs s_init) (defBody s_init) (defScope s_init) (.ref dT) kV_init dc_init pm_init an_init cd_init ct_init,
      f_mulw := f_mulw,
      d_mulw := PySem.W.fnOf "__mul__" "Ratio.__mul__" (defArgs s_mulw) (defBody s_mulw) (defScope s_mulw) .none kV_mulw dc_mulw pm_mulw an_mulw cd_mulw ct_mulw,
      f_rmulw := f_rmulw,
      d_rmulw := PySem.W.fnOf "__rmul__" "Ratio.__rmul__" (defArgs s_rmulw) (defBody s_rmulw) (defScope s_rmulw) .none kV_rmulw dc_rmulw pm_rmulw an_rmulw cd_rmulw ct_rmulw,
      f_neg := f_neg,
      d_neg := PySem.W.fnOf "__neg__" "Ratio.__neg__" (defArgs s_neg) (defBody s_neg) (defScope s_neg) .none kV_neg dc_neg pm_neg an_neg cd_neg ct_neg,
      f_absw := f_absw,
      d_absw := PySem.W.fnOf "__abs__" "Ratio.__abs__" (defArgs s_absw) (defBody s_absw) (defScope s_absw) .none kV_absw dc_absw pm_absw an_absw cd_absw ct_absw,
      f_eq := f_eq,
      d_eq := PySem.W.fnOf "__eq__" "Ratio.__eq__" (defArgs s_eq) (defBody s_eq) (defScope s_eq) .none kV_eq dc_eq pm_eq an_eq cd_eq ct_eq,
      f_bool := f_bool,
      d_bool := PySem.W.fnOf "__bool__" "Ratio.__bool__" (defArgs s_bool) (defBody s_bool) (defScope s_bool) .none kV_bool dc_bool pm_bool an_bool cd_bool ct_bool,
      f_sign := f_sign,
      d_sign := PySem.W.fnOf "sign" "Ratio.sign" (defArgs s_sign) (defBody s_sign) (defScope s_sign) .none kV_sign dc_sign pm_sign an_sign cd_sign ct_sign,
      f_npowers := f_npowers,
      d_npowers := PySem.W.fnOf "_block_powers" "_block_powers" (defArgs s_npowers) (defBody s_npowers) (defScope s_npowers) .none kV_npowers dc_npowers pm_npowers an_npowers cd_npowers ct_npowers,
      f_nwint := f_nwint,
      d_nwint := PySem.W.fnOf "written_integer" "written_integer" (defArgs s_nwint) (defBody s_nwint) (defScope s_nwint) .none kV_nwint dc_nwint pm_nwint an_nwint cd_nwint ct_nwint,
      f_ncount := f_ncount,
      d_ncount := PySem.W.fnOf "_is_count" "_is_count" (defArgs s_ncount) (defBody s_ncount) (defScope s_ncount) .none kV_ncount dc_ncount pm_ncount an_ncount cd_ncount ct_ncount,
      f_nstr := f_nstr,
      d_nstr := PySem.W.fnOf "__str__" "Ratio.__str__" (defArgs s_nstr) (defBody s_nstr) (defScope s_nstr) .none kV_nstr dc_nstr pm_nstr an_nstr cd_nstr ct_nstr,
      f_bt := f_bt,
      d_bt := PySem.W.ksFn "__init__" "BadText.__init__" (defArgs s_bt) (defBody s_bt) (defScope s_bt) .none kV_bt dc_bt pm_bt an_bt (.ref cda_bt) ct_bt cc_bt,
      f_nread := f_nread,
      d_nread := PySem.W.fnOf "read" "Ratio.read" (defArgs s_nread) (defBody s_nread) (defScope s_nread) .none kV_nread dc_nread pm_nread an_nread cd_nread ct_nread,
      f_total := f_total,
      d_total := PySem.W.fnOf "total" "total" (defArgs s_total) (defBody s_total) (defScope s_total) .none kV_total dc_total pm_total an_total cd_total ct_total,
      f_chk3 := f_chk3,
      d_chk3 := PySem.W.fnOf "check_dimension" "check_dimension" (defArgs s_chk3) (defBody s_chk3) (defScope s_chk3) .none kV_chk3 dc_chk3 pm_chk3 an_chk3 cd_chk3 ct_chk3,
      f_chke3 := f_chke3,
      d_chke3 := PySem.W.fnOf "check_entries" "check_entries" (defArgs s_chke3) (defBody s_chke3) (defScope s_chke3) .none kV_chke3 dc_chke3 pm_chke3 an_chke3 cd_chke3 ct_chke3,
      f_chkx := f_chkx,
      d_chkx := PySem.W.fnOf "check_exponents" "check_exponents" (defArgs s_chkx) (defBody s_chkx) (defScope s_chkx) .none kV_chkx dc_chkx pm_chkx an_chkx cd_chkx ct_chkx,
      f_place := f_place,
      d_place := PySem.W.fnOf "standard_place" "standard_place" (defArgs s_place) (defBody s_place) (defScope s_place) .none kV_place dc_place pm_place an_place cd_place ct_place,
      f_pinit := f_pinit,
      d_pinit := PySem.W.fnOf "__init__" "Polynomial.__init__" (defArgs s_pinit) (defBody s_pinit) (defScope s_pinit) (.ref dU) kV_pinit dc_pinit pm_pinit an_pinit cd_pinit ct_pinit,
      f_pterms := f_pterms,
      d_pterms := PySem.W.fnOf "terms" "Polynomial.terms" (defArgs s_pterms) (defBody s_pterms) (defScope s_pterms) .none kV_pterms dc_pterms pm_pterms an_pterms cd_pterms ct_pterms,
      f_peq := f_peq,
      d_peq := PySem.W.fnOf "__eq__" "Polynomial.__eq__" (defArgs s_peq) (defBody s_peq) (defScope s_peq) .none kV_peq dc_peq pm_peq an_peq cd_peq ct_peq,
      f_pwmon := f_pwmon,
      d_pwmon := PySem.W.fnOf "_written_monomial" "_written_monomial" (defArgs s_pwmon) (defBody s_pwmon) (defScope s_pwmon) .none kV_pwmon dc_pwmon pm_pwmon an_pwmon cd_pwmon ct_pwmon,
      f_pwsize := f_pwsize,
      d_pwsize := PySem.W.fnOf "_written_size" "_written_size" (defArgs s_pwsize) (defBody s_pwsize) (defScope s_pwsize) .none kV_pwsize dc_pwsize pm_pwsize an_pwsize cd_pwsize ct_pwsize,
      f_ppieces := f_ppieces,
      d_ppieces := PySem.W.fnOf "_written_pieces" "_written_pieces" (defArgs s_ppieces) (defBody s_ppieces) (defScope s_ppieces) .none kV_ppieces dc_ppieces pm_ppieces an_ppieces cd_ppieces ct_ppieces,
      f_pstr := f_pstr,
      d_pstr := PySem.W.fnOf "__str__" "Polynomial.__str__" (defArgs s_pstr) (defBody s_pstr) (defScope s_pstr) .none kV_pstr dc_pstr pm_pstr an_pstr cd_pstr ct_pstr,
      f_rpower := f_rpower,
      d_rpower := PySem.W.fnOf "_read_power" "_read_power" (defArgs s_rpower) (defBody s_rpower) (defScope s_rpower) .none kV_rpower dc_rpower pm_rpower an_rpower cd_rpower ct_rpower,
      f_rterm := f_rterm,
      d_rterm := PySem.W.fnOf "_read_term" "_read_term" (defArgs s_rterm) (defBody s_rterm) (defScope s_rterm) .none kV_rterm dc_rterm pm_rterm an_rterm cd_rterm ct_rterm,
      f_rterms := f_rterms,
      d_rterms := PySem.W.fnOf "_read_terms" "_read_terms" (defArgs s_rterms) (defBody s_rterms) (defScope s_rterms) .none kV_rterms dc_rterms pm_rterms an_rterms cd_rterms ct_rterms,
      f_rpoly := f_rpoly,
      d_rpoly := PySem.W.fnOf "read_polynomial" "read_polynomial" (defArgs s_rpoly) (defBody s_rpoly) (defScope s_rpoly) .none kV_rpoly dc_rpoly pm_rpoly an_rpoly cd_rpoly ct_rpoly,
      f_lfig := f_lfig,
      d_lfig := PySem.W.fnOf "_law_figures" "_law_figures" (defArgs s_lfig) (defBody s_lfig) (defScope s_lfig) .none kV_lfig dc_lfig pm_lfig an_lfig cd_lfig ct_lfig,
      f_ldrawn := f_ldrawn,
      d_ldrawn := PySem.W.fnOf "_law_drawn" "_law_drawn" (defArgs s_ldrawn) (defBody s_ldrawn) (defScope s_ldrawn) .none kV_ldrawn dc_ldrawn pm_ldrawn an_ldrawn cd_ldrawn ct_ldrawn,
      f_ltext := f_ltext,
      d_ltext := PySem.W.fnOf "_law_text" "_law_text" (defArgs s_ltext) (defBody s_ltext) (defScope s_ltext) .none kV_ltext dc_ltext pm_ltext an_ltext cd_ltext ct_ltext,
      f_lwritten := f_lwritten,
      d_lwritten := PySem.W.fnOf "_law_written" "_law_written" (defArgs s_lwritten) (defBody s_lwritten) (defScope s_lwritten) .none kV_lwritten dc_lwritten pm_lwritten an_lwritten cd_lwritten ct_lwritten,
      f_lletters := f_lletters,
      d_lletters := PySem.W.fnOf "_law_letters" "_law_letters" (defArgs s_lletters) (defBody s_lletters) (defScope s_lletters) .none kV_lletters dc_lletters pm_lletters an_lletters cd_lletters ct_lletters,
      f_lexps := f_lexps,
      d_lexps := PySem.W.fnOf "_law_exponents" "_law_exponents" (defArgs s_lexps) (defBody s_lexps) (defScope s_lexps) .none kV_lexps dc_lexps pm_lexps an_lexps cd_lexps ct_lexps,
      f_lpower := f_lpower,
      d_lpower := PySem.W.fnOf "_law_power_of" "_law_power_of" (defArgs s_lpower) (defBody s_lpower) (defScope s_lpower) .none kV_lpower dc_lpower pm_lpower an_lpower cd_lpower ct_lpower,
      f_ldue := f_ldue,
      d_ldue := PySem.W.fnOf "_law_due" "_law_due" (defArgs s_ldue) (defBody s_ldue) (defScope s_ldue) .none kV_ldue dc_ldue pm_ldue an_ldue cd_ldue ct_ldue,
      f_lis := f_lis,
      d_lis := PySem.W.fnOf "_law_is" "_law_is" (defArgs s_lis) (defBody s_lis) (defScope s_lis) .none kV_lis dc_lis pm_lis an_lis cd_lis ct_lis,
      f_lterm := f_lterm,
      d_lterm := PySem.W.fnOf "_law_term" "_law_term" (defArgs s_lterm) (defBody s_lterm) (defScope s_lterm) .none kV_lterm dc_lterm pm_lterm an_lterm cd_lterm ct_lterm,
      f_nonum := f_nonum,
      d_nonum := PySem.W.fnOf "_law_no_number" "_law_no_number" (defArgs s_nonum) (defBody s_nonum) (defScope s_nonum) .none kV_nonum dc_nonum pm_nonum an_nonum cd_nonum ct_nonum,
      f_nopol := f_nopol,
      d_nopol := PySem.W.fnOf "_law_no_polynomial" "_law_no_polynomial" (defArgs s_nopol) (defBody s_nopol) (defScope s_nopol) .none kV_nopol dc_nopol pm_nopol an_nopol cd_nopol ct_nopol,
      f_law65 := f_law65,
      d_law65 := PySem.W.fnOf "law" "law" (defArgs s_law65) (defBody s_law65) (defScope s_law65) .none kV_law65 dc_law65 pm_law65 an_law65 cd_law65 ct_law65 } :=
    {
      isa_Ratio := ⟨⟨pg, hd, po, sa⟩, ca, cn, ct, cm, kit_tyr (by decide +kernel) su2, kit_ref (fun e => by cases e) hd tC su1⟩,
      isa_Polynomial := ⟨⟨ppg, phd, ppo, psa⟩, pca, cn, ct, pcm, kit_tyr (by decide +kernel) psu2, kit_ref (fun e => by cases e) phd ptC psu1⟩,
      na_top := na_top,
      na_bottom := na_bottom,
      na_dimension := na_dimension,
      na__pairs := na__pairs,
      na__numbers := na__numbers,
      g_Ratio := PySem.W.mg_of X G gC,
      g_Polynomial := PySem.W.mg_of X G gPC,
      mk_Ratio := ⟨mk, a_init, i_init, kC⟩,
      mk_Polynomial := ⟨pmk, a_pinit, i_pinit, pkC⟩,
      v_init1 := v_init1,
      b_init1 := b_init1,
      F_init := F_init,
      F_pinit := F_pinit,
      b_init := b_init,
      b_pinit := b_pinit,
      kb_init := kb_init,
      kb_pinit := kb_pinit,
      fm_Ratio := fm,
      g_gcd := PySem.W.mg_of X G ggcd,
      xZ := xZ,
      gZ := PySem.W.mg_of X G gZ,
      kZ := kZ,
      bZ := bZ,
      tZ := tZ,
      te_BN := ⟨oBN, aiBN, sBN, ztBN⟩,
      te_BP := ⟨oBP, aiBP, sBP, ztBP⟩,
      ti_bt := ti_bt,
      bt := ⟨_, _, kV_bt, dc_bt, pm_bt, an_bt, cda_bt, cc_bt, ct_bt, _, l_bt, rfl, c_bt, ⟨_, _, _, _, _, _, lcd, vcd, fcd⟩, ⟨_, _, _, lcc⟩⟩,
      b_bt := b_bt,
      cr_Ratio := ⟨rdC, gaC⟩,
      sm_nread := ⟨a_nread, ⟨_, r_nread⟩, k_nread⟩,
      exc := ⟨⟨zgBN, zkBN, bBBN, dBN, zaBN, cn, ct, zmBN⟩, m1, kit_true zzBN rTBN sTBN dBT tBT, kit_other zzBN sNP dBP tBP⟩,
      excP := ⟨⟨zgBP, zkBP, bBBP, dBP, zaBP, cn, ct, zmBP⟩, PySem.W.exm_ref bBBP dBP tBP zzBP, kit_true zzBP rTBP sTBP dBT tBT, kit_other zzBP sPN dBN tBN⟩,
      xf := ⟨zgBN, zkBN, bBBN, dBN⟩,
      xfP := ⟨zgBP, zkBP, bBBP, dBP⟩,
      nt := ztBN,
      ntP := ztBP,
      hm := hm,
      o_mulw := ⟨a_mulw, i_mulw, sf⟩,
      i_mulw := ⟨⟨_, a_rmulw, .inr ⟨_, rfl⟩⟩, ⟨_, b1_mul⟩, ⟨_, b2_mul⟩, su1⟩,
      o_rmulw := ⟨⟨_, a_mulw⟩, a_rmulw, i_rmulw, sf, ⟨_, b1_mul, by decide +kernel⟩, ⟨_, b2_mul⟩, su2⟩,
      o_eq := ⟨a_eq, i_eq, su1, su2⟩,
      o_peq := ⟨a_peq, i_peq, psu1, psu2⟩,
      o_pstr := a_pstr,
      i_pstr := i_pstr,
      m_sign := ⟨a_sign, i_sign, k_sign⟩,
      m_pterms := ⟨a_pterms, i_pterms, k_pterms⟩,
      c_VARIABLES := ⟨_, PySem.W.mg_of X G cVA, rfl⟩,
      tv := tv,
      ty := ty,
      o_neg := a_neg,
      i_neg := i_neg,
      o_nstr := a_nstr,
      i_nstr := i_nstr,
      o_absw := a_absw,
      i_absw := i_absw,
      o_bool := a_bool,
      i_bool := i_bool,
      c_LONGEST_READ := ⟨_, PySem.W.mg_of X G cLONGEST_READ, ⟨tkLONGEST_READ, rfl⟩⟩,
      c_BLOCK_DIGITS := ⟨_, PySem.W.mg_of X G cBLOCK_DIGITS, ⟨tkBLOCK_DIGITS, rfl⟩⟩,
      c_BLOCK := ⟨_, PySem.W.mg_of X G cBLOCK, ⟨tkBLOCK, by rw [e64]⟩⟩,
      c_DIMENSIONS := ⟨_, PySem.W.mg_of X G cDIMENSIONS, ⟨tkDIMENSIONS, rfl⟩⟩,
      c_GREATEST_DEGREE := ⟨_, PySem.W.mg_of X G cGREATEST_DEGREE, ⟨tkGREATEST_DEGREE, rfl⟩⟩,
      c_LONGEST_TEXT := ⟨_, PySem.W.mg_of X G cLONGEST_TEXT, ⟨tkLONGEST_TEXT, rfl⟩⟩,
      g_BadNumber := PySem.W.mg_of X G gBN,
      g_BadPolynomial := PySem.W.mg_of X G gBP,
      g_BadText := PySem.W.mg_of X G gBT,
      g_TooLarge := PySem.W.mg_of X G gLA,
      n_len := PySem.W.mg_none_of X G n_len,
      n_abs := PySem.W.mg_none_of X G n_abs,
      n_int := PySem.W.mg_none_of X G n_int,
      n_list := PySem.W.mg_none_of X G n_list,
      n_tuple := PySem.W.mg_none_of X G n_tuple,
      n_sum := PySem.W.mg_none_of X G n_sum,
      n_bool := PySem.W.mg_none_of X G n_bool,
      n_max := PySem.W.mg_none_of X G n_max,
      n_min := PySem.W.mg_none_of X G n_min,
      n_isinstance := PySem.W.mg_none_of X G n_isinstance,
      n_range := PySem.W.mg_none_of X G n_range,
      n_zip := PySem.W.mg_none_of X G n_zip,
      n_sorted := PySem.W.mg_none_of X G n_sorted,
      n_str := PySem.W.mg_none_of X G n_str,
      n_divmod := PySem.W.mg_none_of X G n_divmod,
      n_super := PySem.W.mg_none_of X G n_super,
      F_pool := F_pool,
      b_pool := b_pool,
      g_pool := PySem.W.mg_of X G a_pool,
      k_pool := k_pool,
      F_take := F_take,
      b_take := b_take,
      g_take := PySem.W.mg_of X G a_take,
      k_take := k_take,
      F_integer := F_integer,
      b_integer := b_integer,
      g_integer := PySem.W.mg_of X G a_integer,
      k_integer := k_integer,
      F_common := F_common,
      b_common := b_common,
      g_common := PySem.W.mg_of X G a_common,
      k_common := k_common,
      F_mulw := F_mulw,
      b_mulw := b_mulw,
      F_rmulw := F_rmulw,
      b_rmulw := b_rmulw,
      F_neg := F_neg,
      b_neg := b_neg,
      F_absw := F_absw,
      b_absw := b_absw,
      F_eq := F_eq,
      b_eq := b_eq,
      F_bool := F_bool,
      b_bool := b_bool,
      F_sign := F_sign,
      b_sign := b_sign,
      F_npowers := F_npowers,
      b_npowers := b_npowers,
      g_npowers := PySem.W.mg_of X G a_npowers,
      k_npowers := k_npowers,
      F_nwint := F_nwint,
      b_nwint := b_nwint,
      g_nwint := PySem.W.mg_of X G a_nwint,
      k_nwint := k_nwint,
      F_ncount := F_ncount,
      b_ncount := b_ncount,
      g_ncount := PySem.W.mg_of X G a_ncount,
      k_ncount := k_ncount,
      F_nstr := F_nstr,
      b_nstr := b_nstr,
      F_nread := F_nread,
      b_nread := b_nread,
      F_total := F_total,
      b_total := b_total,
      g_total := PySem.W.mg_of X G a_total,
      k_total := k_total,
      F_chk3 := F_chk3,
      b_chk3 := b_chk3,
      g_chk3 := PySem.W.mg_of X G a_chk3,
      k_chk3 := k_chk3,
      F_chke3 := F_chke3,
      b_chke3 := b_chke3,
      g_chke3 := PySem.W.mg_of X G a_chke3,
      k_chke3 := k_chke3,
      F_chkx := F_chkx,
      b_chkx := b_chkx,
      g_chkx := PySem.W.mg_of X G a_chkx,
      k_chkx := k_chkx,
      F_place := F_place,
      b_place := b_place,
      g_place := PySem.W.mg_of X G a_place,
      k_place := k_place,
      F_pterms := F_pterms,
      b_pterms := b_pterms,
      F_peq := F_peq,
      b_peq := b_peq,
      F_pwmon := F_pwmon,
      b_pwmon := b_pwmon,
      g_pwmon := PySem.W.mg_of X G a_pwmon,
      k_pwmon := k_pwmon,
      F_pwsize := F_pwsize,
      b_pwsize := b_pwsize,
      g_pwsize := PySem.W.mg_of X G a_pwsize,
      k_pwsize := k_pwsize,
      F_ppieces := F_ppieces,
      b_ppieces := b_ppieces,
      g_ppieces := PySem.W.mg_of X G a_ppieces,
      k_ppieces := k_ppieces,
      F_pstr := F_pstr,
      b_pstr := b_pstr,
      F_rpower := F_rpower,
      b_rpower := b_rpower,
      g_rpower := PySem.W.mg_of X G a_rpower,
      k_rpower := k_rpower,
      F_rterm := F_rterm,
      b_rterm := b_rterm,
      g_rterm := PySem.W.mg_of X G a_rterm,
      k_rterm := k_rterm,
      F_rterms := F_rterms,
      b_rterms := b_rterms,
      g_rterms := PySem.W.mg_of X G a_rterms,
      k_rterms := k_rterms,
      F_rpoly := F_rpoly,
      b_rpoly := b_rpoly,
      g_rpoly := PySem.W.mg_of X G a_rpoly,
      k_rpoly := k_rpoly,
      F_lfig := F_lfig,
      b_lfig := b_lfig,
      g_lfig := PySem.W.mg_of X G a_lfig,
      k_lfig := k_lfig,
      F_ldrawn := F_ldrawn,
      b_ldrawn := b_ldrawn,
      g_ldrawn := PySem.W.mg_of X G a_ldrawn,
      k_ldrawn := k_ldrawn,
      F_ltext := F_ltext,
      b_ltext := b_ltext,
      g_ltext := PySem.W.mg_of X G a_ltext,
      k_ltext := k_ltext,
      F_lwritten := F_lwritten,
      b_lwritten := b_lwritten,
      g_lwritten := PySem.W.mg_of X G a_lwritten,
      k_lwritten := k_lwritten,
      F_lletters := F_lletters,
      b_lletters := b_lletters,
      g_lletters := PySem.W.mg_of X G a_lletters,
      k_lletters := k_lletters,
      F_lexps := F_lexps,
      b_lexps := b_lexps,
      g_lexps := PySem.W.mg_of X G a_lexps,
      k_lexps := k_lexps,
      F_lpower := F_lpower,
      b_lpower := b_lpower,
      g_lpower := PySem.W.mg_of X G a_lpower,
      k_lpower := k_lpower,
      F_ldue := F_ldue,
      b_ldue := b_ldue,
      g_ldue := PySem.W.mg_of X G a_ldue,
      k_ldue := k_ldue,
      F_lis := F_lis,
      b_lis := b_lis,
      g_lis := PySem.W.mg_of X G a_lis,
      k_lis := k_lis,
      F_lterm := F_lterm,
      b_lterm := b_lterm,
      g_lterm := PySem.W.mg_of X G a_lterm,
      k_lterm := k_lterm,
      F_nonum := F_nonum,
      b_nonum := b_nonum,
      g_nonum := PySem.W.mg_of X G a_nonum,
      k_nonum := k_nonum,
      F_nopol := F_nopol,
      b_nopol := b_nopol,
      g_nopol := PySem.W.mg_of X G a_nopol,
      k_nopol := k_nopol,
      F_law65 := F_law65,
      b_law65 := b_law65,
      g_law65 := PySem.W.mg_of X G a_law65,
      k_law65 := k_law65 }
  exact ⟨_, fun s v => .of_eq rfl, fun base _ _ => ok_law65 T⟩
theorem walk {l : PySem.W.OpenLaw} {q : Program} {loose : List Str} {XP : (Str → Option Value) → Heap → Prop} {YP : World → Heap → Prop} {d : DefRec} {K : Params → PySem.W.Frag} (hn : l.most = some 63) (hdf : d.params.defaults = [])
    (hY : ∀ (w : World) (h : Heap), YP w h → (K w.params).In h)
    (F : ∀ (w : World) (mg : Str → Option Value) (fa : Addr) (h : Heap), (K w.params).In h → h.Ns mainGlobals mg → mg d.name = some (.ref fa) →
      ∃ fd : FuncData, (∀ (s : Shared) (u : Value), BindsTo s fd ⟨[u], []⟩ [("script", u)]) ∧ ∀ base : Heap, (K w.params).In base → base.Ns mainGlobals mg → FnOk l.prog w (K w.params) mg base CX0 13 fa fd ["script"] (spLaw (K w.params))) :
    PySem.W.WalkO q loose XP YP l.row.toRowW d [] (fun f vs => PySem.call f vs) :=
  L2.walk_of (n := 63) (k := 13) (x := "script") (CX := fun _ => CX0) (sp := fun w => spLaw (K w.params)) hn (by decide) hdf ⟨rfl, by decide, by decide⟩ hY F (fun _ _ a ns hl _ hS => ⟨a, ns, rfl, hS, hl, fun _ => rfl⟩) fun _ _ _ _ _ z => z
end SpX

set_option Elab.async false
open PySem PySem.W PyProof.Rows
set_option maxRecDepth 100000 in
set_option maxHeartbeats 0 in
theorem PySem.Challenge.cw_spotheights_k65_long_numbers_are_written_holds : PySem.Challenge.rw_spotheights_k65_long_numbers_are_written.Holds := by
  w_on; o_law; k_head; (case hw => w_witness2)
  k_fill
  refine SpX.walk (l := PySem.Challenge.rw_spotheights_k65_long_numbers_are_written) rfl rfl (fun w h Y => PySem.W.kIn_of Y) ?F
  case F =>
    intro w mg fa h KX G hmg
    refine' SpX.all_mk KX G hmg ?gC ?gPC ?gZ ?gBN ?gBP ?gBT ?gLA ?gSE ?n_len ?n_abs ?n_int ?n_list ?n_tuple ?n_sum ?n_bool ?n_max ?n_min ?n_isinstance ?n_range ?n_zip ?n_sorted ?n_str ?n_divmod ?n_super ?ggcd ?cLONGEST_READ ?cBLOCK_DIGITS ?cBLOCK ?cDIMENSIONS ?cGREATEST_DEGREE ?cLONGEST_TEXT ?cVA ?lVA ?cn ?ct ?pg ?hd ?po ?sa ?ca ?cm ?tC ?na_top ?na_bottom ?mk ?kC ?su1 ?su2 ?ppg ?phd ?ppo ?psa ?pca ?pcm ?ptC ?na_dimension ?na__pairs ?na__numbers ?pmk ?pkC ?psu1 ?psu2 ?sf ?fm ?rdC ?gaC ?b1_mul ?b2_mul ?xZ ?kZ ?bZ ?tZ ?lSE ?zgBN ?zkBN ?zaBN ?zsBN ?ztBN ?zmBN ?zbBN ?kBN ?veBN ?zzBN ?sTBN ?rTBN ?aiBN ?lBN ?qBN ?drBN ?zgBP ?zkBP ?zaBP ?zsBP ?ztBP ?zmBP ?zbBP ?kBP ?veBP ?zzBP ?sTBP ?rTBP ?aiBP ?lBP ?qBP ?drBP ?bBBN ?bBBP ?bBLA ?dBN ?tBN ?dBP ?tBP ?dLA ?tLA ?dBT ?tBT ?sNP ?sPN ?sNL ?fSE ?any ?ptop ?a_pool ?l_pool ?c_pool ?k_pool ?a_take ?l_take ?c_take ?k_take ?a_integer ?l_integer ?c_integer ?k_integer ?a_common ?l_common ?c_common ?k_common ?a_init ?i_init ?l_init ?c_init ?k_init ?a_mulw ?i_mulw ?l_mulw ?c_mulw ?k_mulw ?a_rmulw ?i_rmulw ?l_rmulw ?c_rmulw ?k_rmulw ?a_neg ?i_neg ?l_neg ?c_neg ?k_neg ?a_absw ?i_absw ?l_absw ?c_absw ?k_absw ?a_eq ?i_eq ?l_eq ?c_eq ?k_eq ?a_bool ?i_bool ?l_bool ?c_bool ?k_bool ?a_sign ?i_sign ?l_sign ?c_sign ?k_sign ?a_npowers ?l_npowers ?c_npowers ?k_npowers ?a_nwint ?l_nwint ?c_nwint ?k_nwint ?a_ncount ?l_ncount ?c_ncount ?k_ncount ?a_nstr ?i_nstr ?l_nstr ?c_nstr ?k_nstr ?ti_bt ?l_bt ?c_bt ?lcd ?vcd ?fcd ?lcc ?a_nread ?r_nread ?l_nread ?c_nread ?k_nread ?a_total ?l_total ?c_total ?k_total ?a_chk3 ?l_chk3 ?c_chk3 ?k_chk3 ?a_chke3 ?l_chke3 ?c_chke3 ?k_chke3 ?a_chkx ?l_chkx ?c_chkx ?k_chkx ?a_place ?l_place ?c_place ?k_place ?a_pinit ?i_pinit ?l_pinit ?c_pinit ?k_pinit ?a_pterms ?i_pterms ?l_pterms ?c_pterms ?k_pterms ?a_peq ?i_peq ?l_peq ?c_peq ?k_peq ?a_pwmon ?l_pwmon ?c_pwmon ?k_pwmon ?a_pwsize ?l_pwsize ?c_pwsize ?k_pwsize ?a_ppieces ?l_ppieces ?c_ppieces ?k_ppieces ?a_pstr ?i_pstr ?l_pstr ?c_pstr ?k_pstr ?a_rpower ?l_rpower ?c_rpower ?k_rpower ?a_rterm ?l_rterm ?c_rterm ?k_rterm ?a_rterms ?l_rterms ?c_rterms ?k_rterms ?a_rpoly ?l_rpoly ?c_rpoly ?k_rpoly ?a_lfig ?l_lfig ?c_lfig ?k_lfig ?a_ldrawn ?l_ldrawn ?c_ldrawn ?k_ldrawn ?a_ltext ?l_ltext ?c_ltext ?k_ltext ?a_lwritten ?l_lwritten ?c_lwritten ?k_lwritten ?a_lletters ?l_lletters ?c_lletters ?k_lletters ?a_lexps ?l_lexps ?c_lexps ?k_lexps ?a_lpower ?l_lpower ?c_lpower ?k_lpower ?a_ldue ?l_ldue ?c_ldue ?k_ldue ?a_lis ?l_lis ?c_lis ?k_lis ?a_lterm ?l_lterm ?c_lterm ?k_lterm ?a_nonum ?l_nonum ?c_nonum ?k_nonum ?a_nopol ?l_nopol ?c_nopol ?k_nopol ?a_law65 ?l_law65 ?c_law65 ?k_law65 ?lt ?lu
    (case gC => k_is)
    (case gPC => k_is)
    (case gZ => k_is)
    (case gBN => k_is)
    (case gBP => k_is)
    (case gBT => k_is)
    (case gLA => k_is)
    (case gSE => k_is)
    (case n_len => k_is)
    (case n_abs => k_is)
    (case n_int => k_is)
    (case n_list => k_is)
    (case n_tuple => k_is)
    (case n_sum => k_is)
    (case n_bool => k_is)
    (case n_max => k_is)
    (case n_min => k_is)
    (case n_isinstance => k_is)
    (case n_range => k_is)
    (case n_zip => k_is)
    (case n_sorted => k_is)
    (case n_str => k_is)
    (case n_divmod => k_is)
    (case n_super => k_is)
    (case ggcd => k_is)
    (case cLONGEST_READ => k_is)
    (case cBLOCK_DIGITS => k_is)
    (case cBLOCK => k_is)
    (case cDIMENSIONS => k_is)
    (case cGREATEST_DEGREE => k_is)
    (case cLONGEST_TEXT => k_is)
    (case cVA => k_is)
    (case lVA => k_is)
    (case cn => k_is)
    (case ct => k_is)
    (case pg => k_is)
    (case hd => k_is)
    (case po => k_is)
    (case sa => k_is)
    (case ca => k_is)
    (case cm => k_is)
    (case tC => k_is)
    (case na_top => k_is)
    (case na_bottom => k_is)
    (case mk => k_is)
    (case kC => k_is)
    (case su1 => k_is)
    (case su2 => k_is)
    (case ppg => k_is)
    (case phd => k_is)
    (case ppo => k_is)
    (case psa => k_is)
    (case pca => k_is)
    (case pcm => k_is)
    (case ptC => k_is)
    (case na_dimension => k_is)
    (case na__pairs => k_is)
    (case na__numbers => k_is)
    (case pmk => k_is)
    (case pkC => k_is)
    (case psu1 => k_is)
    (case psu2 => k_is)
    (case sf => k_is)
    (case fm => k_is)
    (case rdC => k_is)
    (case gaC => k_is)
    (case b1_mul => k_is)
    (case b2_mul => k_is)
    (case xZ => k_exc)
    (case kZ => k_is)
    (case bZ => k_is)
    (case tZ => k_is)
    (case lSE => k_is)
    (case zgBN => k_is)
    (case zkBN => k_is)
    (case zaBN => k_is)
    (case zsBN => k_is)
    (case ztBN => k_is)
    (case zmBN => k_is)
    (case zbBN => k_is)
    (case kBN => k_is)
    (case veBN => k_is)
    (case zzBN => first | rfl | k_is)
    (case sTBN => k_is)
    (case rTBN => k_is)
    (case aiBN => k_is)
    (case lBN => k_is)
    (case qBN => first | rfl | decide +kernel)
    (case drBN => first | rfl | decide +kernel)
    (case zgBP => k_is)
    (case zkBP => k_is)
    (case zaBP => k_is)
    (case zsBP => k_is)
    (case ztBP => k_is)
    (case zmBP => k_is)
    (case zbBP => k_is)
    (case kBP => k_is)
    (case veBP => k_is)
    (case zzBP => first | rfl | k_is)
    (case sTBP => k_is)
    (case rTBP => k_is)
    (case aiBP => k_is)
    (case lBP => k_is)
    (case qBP => first | rfl | decide +kernel)
    (case drBP => first | rfl | decide +kernel)
    (case bBBN => k_is)
    (case bBBP => k_is)
    (case bBLA => k_is)
    (case dBN => k_is)
    (case tBN => k_is)
    (case dBP => k_is)
    (case tBP => k_is)
    (case dLA => k_is)
    (case tLA => k_is)
    (case dBT => k_is)
    (case tBT => k_is)
    (case sNP => k_is)
    (case sPN => k_is)
    (case sNL => k_is)
    (case fSE => k_is)
    (case any => k_is)
    (case ptop => first | rfl | decide +kernel)
    (case a_pool => k_is)
    (case l_pool => k_is)
    (case c_pool => k_is)
    (case k_pool => k_is)
    (case a_take => k_is)
    (case l_take => k_is)
    (case c_take => k_is)
    (case k_take => k_is)
    (case a_integer => k_is)
    (case l_integer => k_is)
    (case c_integer => k_is)
    (case k_integer => k_is)
    (case a_common => k_is)
    (case l_common => k_is)
    (case c_common => k_is)
    (case k_common => k_is)
    (case a_init => k_is)
    (case i_init => k_is)
    (case l_init => k_is)
    (case c_init => k_is)
    (case k_init => k_is)
    (case a_mulw => k_is)
    (case i_mulw => k_is)
    (case l_mulw => k_is)
    (case c_mulw => k_is)
    (case k_mulw => k_is)
    (case a_rmulw => k_is)
    (case i_rmulw => k_is)
    (case l_rmulw => k_is)
    (case c_rmulw => k_is)
    (case k_rmulw => k_is)
    (case a_neg => k_is)
    (case i_neg => k_is)
    (case l_neg => k_is)
    (case c_neg => k_is)
    (case k_neg => k_is)
    (case a_absw => k_is)
    (case i_absw => k_is)
    (case l_absw => k_is)
    (case c_absw => k_is)
    (case k_absw => k_is)
    (case a_eq => k_is)
    (case i_eq => k_is)
    (case l_eq => k_is)
    (case c_eq => k_is)
    (case k_eq => k_is)
    (case a_bool => k_is)
    (case i_bool => k_is)
    (case l_bool => k_is)
    (case c_bool => k_is)
    (case k_bool => k_is)
    (case a_sign => k_is)
    (case i_sign => k_is)
    (case l_sign => k_is)
    (case c_sign => k_is)
    (case k_sign => k_is)
    (case a_npowers => k_is)
    (case l_npowers => k_is)
    (case c_npowers => k_is)
    (case k_npowers => k_is)
    (case a_nwint => k_is)
    (case l_nwint => k_is)
    (case c_nwint => k_is)
    (case k_nwint => k_is)
    (case a_ncount => k_is)
    (case l_ncount => k_is)
    (case c_ncount => k_is)
    (case k_ncount => k_is)
    (case a_nstr => k_is)
    (case i_nstr => k_is)
    (case l_nstr => k_is)
    (case c_nstr => k_is)
    (case k_nstr => k_is)
    (case ti_bt => k_is)
    (case l_bt => k_is)
    (case c_bt => k_is)
    (case lcd => k_is)
    (case vcd => rfl)
    (case fcd => first | rfl | decide +kernel)
    (case lcc => k_is)
    (case a_nread => k_is)
    (case r_nread => k_is)
    (case l_nread => k_is)
    (case c_nread => k_is)
    (case k_nread => k_is)
    (case a_total => k_is)
    (case l_total => k_is)
    (case c_total => k_is)
    (case k_total => k_is)
    (case a_chk3 => k_is)
    (case l_chk3 => k_is)
    (case c_chk3 => k_is)
    (case k_chk3 => k_is)
    (case a_chke3 => k_is)
    (case l_chke3 => k_is)
    (case c_chke3 => k_is)
    (case k_chke3 => k_is)
    (case a_chkx => k_is)
    (case l_chkx => k_is)
    (case c_chkx => k_is)
    (case k_chkx => k_is)
    (case a_place => k_is)
    (case l_place => k_is)
    (case c_place => k_is)
    (case k_place => k_is)
    (case a_pinit => k_is)
    (case i_pinit => k_is)
    (case l_pinit => k_is)
    (case c_pinit => k_is)
    (case k_pinit => k_is)
    (case a_pterms => k_is)
    (case i_pterms => k_is)
    (case l_pterms => k_is)
    (case c_pterms => k_is)
    (case k_pterms => k_is)
    (case a_peq => k_is)
    (case i_peq => k_is)
    (case l_peq => k_is)
    (case c_peq => k_is)
    (case k_peq => k_is)
    (case a_pwmon => k_is)
    (case l_pwmon => k_is)
    (case c_pwmon => k_is)
    (case k_pwmon => k_is)
    (case a_pwsize => k_is)
    (case l_pwsize => k_is)
    (case c_pwsize => k_is)
    (case k_pwsize => k_is)
    (case a_ppieces => k_is)
    (case l_ppieces => k_is)
    (case c_ppieces => k_is)
    (case k_ppieces => k_is)
    (case a_pstr => k_is)
    (case i_pstr => k_is)
    (case l_pstr => k_is)
    (case c_pstr => k_is)
    (case k_pstr => k_is)
    (case a_rpower => k_is)
    (case l_rpower => k_is)
    (case c_rpower => k_is)
    (case k_rpower => k_is)
    (case a_rterm => k_is)
    (case l_rterm => k_is)
    (case c_rterm => k_is)
    (case k_rterm => k_is)
    (case a_rterms => k_is)
    (case l_rterms => k_is)
    (case c_rterms => k_is)
    (case k_rterms => k_is)
    (case a_rpoly => k_is)
    (case l_rpoly => k_is)
    (case c_rpoly => k_is)
    (case k_rpoly => k_is)
    (case a_lfig => k_is)
    (case l_lfig => k_is)
    (case c_lfig => k_is)
    (case k_lfig => k_is)
    (case a_ldrawn => k_is)
    (case l_ldrawn => k_is)
    (case c_ldrawn => k_is)
    (case k_ldrawn => k_is)
    (case a_ltext => k_is)
    (case l_ltext => k_is)
    (case c_ltext => k_is)
    (case k_ltext => k_is)
    (case a_lwritten => k_is)
    (case l_lwritten => k_is)
    (case c_lwritten => k_is)
    (case k_lwritten => k_is)
    (case a_lletters => k_is)
    (case l_lletters => k_is)
    (case c_lletters => k_is)
    (case k_lletters => k_is)
    (case a_lexps => k_is)
    (case l_lexps => k_is)
    (case c_lexps => k_is)
    (case k_lexps => k_is)
    (case a_lpower => k_is)
    (case l_lpower => k_is)
    (case c_lpower => k_is)
    (case k_lpower => k_is)
    (case a_ldue => k_is)
    (case l_ldue => k_is)
    (case c_ldue => k_is)
    (case k_ldue => k_is)
    (case a_lis => k_is)
    (case l_lis => k_is)
    (case c_lis => k_is)
    (case k_lis => k_is)
    (case a_lterm => k_is)
    (case l_lterm => k_is)
    (case c_lterm => k_is)
    (case k_lterm => k_is)
    (case a_nonum => k_is)
    (case l_nonum => k_is)
    (case c_nonum => k_is)
    (case k_nonum => k_is)
    (case a_nopol => k_is)
    (case l_nopol => k_is)
    (case c_nopol => k_is)
    (case k_nopol => k_is)
    (case a_law65 => k_is)
    (case l_law65 => k_is)
    (case c_law65 => k_is)
    (case k_law65 => k_is)
    (case lt => k_is)
    (case lu => k_is)

