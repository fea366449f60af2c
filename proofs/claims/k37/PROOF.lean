import PyProof.Rows.All
import Wide.All
import OpenK.AllK
import Wide.FinOn
import HandS.Codes
import HandS.ForMost
import HandS.Wide
import HandS.Zip
import HandS.IsInst
import HandS.Defaults
import HandS.Style
import HandS.Walk
import HandS.More
import KE.BitLaws
import OpenK.KEqL
import PySem.Challenge.RW_echobound_k37_a_number_spelled
set_option Elab.async false
set_option linter.all false
set_option maxRecDepth 100000
set_option maxHeartbeats 4000000
namespace E1
open PySem PySem.Spec PyProof.Rows L2
/-! ### a def of the text that is called by its name -/
def Cal (P : Program) (w : World) (K : PySem.W.Frag) (mg : Str → Option Value) (base : Heap) (k : Nat) (x : Str) (ps : List Str) (sp : Sp) : Prop :=
  ∃ (f : Addr) (fd : FuncData), mg x = some (.ref f) ∧ PySem.W.keepIn K (.ref f) = true ∧ Binds K fd ps [] ∧ FnOk P w K mg base CX0 k f fd ps sp
theorem pe_cal {X : Cx} {k j : Nat} {x : Str} {ps : List Str} {sp : Sp} {e : Expr} {es : List Expr} {t : TA} {p pos : Pos} (c : Cal X.prog X.w X.K X.mg X.base k x ps sp) (hr : Room j X.A) (ha : PA X (e :: es) t) (hle : k ≤ j := by decide) (hg : Gl X x := by rfl)
    (hdb : (x == ("__debug__" : Str)) = false := by decide) (he : starEach (e :: es) X.env = (false, eval e X.env) :: starEach es X.env := by rfl) (hpl : (backTo pos (starEach es X.env)).any (·.1) = false := by rfl) :
    PE X (.Call (.Name x p) (e :: es) [] pos) (tCall sp [] E0 t) := by
  obtain ⟨f, fd, h1, h2, h3, h4⟩ := c
  exact pe_call h4 (hr.mono hle) hg h1 h2 h3 .nil pass0 ha hdb he hpl
/-! ### heaps -/
def SameBut (a : Addr) (H H' : Hp) : Prop := ∀ b o, b ≠ a → H b = some o → H' b = some o
theorem SameBut.refl (a : Addr) (H : Hp) : SameBut a H H := fun _ _ _ h => h
theorem SameBut.trans {a : Addr} {H H1 H2 : Hp} (x : SameBut a H H1) (y : SameBut a H1 H2) : SameBut a H H2 := fun b o n h => y b o n (x b o n h)
theorem SameBut.of {a : Addr} {H H' : Hp} (s : Same H H') : SameBut a H H' := fun b o _ h => s b o h
theorem SameBut.upd {a : Addr} {H : Hp} {o : HO} : SameBut a H (upd H a o) := fun b _ n h => by
  rw [upd_ne n]
  exact h
theorem same_new {H : Hp} {p : Addr} {o : HO} (h : H p = none) : Same H (upd H p o) := fun b x e => by
  rw [upd_ne (ne_of_none e h)]
  exact e
theorem Same.tup {K : PySem.W.Frag} {H H' : Hp} {a : Addr} {xs : List V} (e : Same H H') (h : SqT K H a xs) : SqT K H' a xs := by
  rcases h with (h | ⟨o, h⟩) | h
  · exact .inl (.inl (e _ _ h))
  · exact .inl (.inr ⟨o, e _ _ h⟩)
  · exact .inr h
theorem a0 {α : Type} {x : α} {l : List α} : atI (x :: l) 0 = some x := atI_nat (j := 0) rfl
theorem a1 {α : Type} {x y : α} {l : List α} : atI (x :: y :: l) 1 = some y := atI_nat (j := 1) rfl
theorem a2 {α : Type} {x y z : α} {l : List α} : atI (x :: y :: z :: l) 2 = some z := atI_nat (j := 2) rfl
theorem toB {p : Prop} [Decidable p] (h : decide p = true) : p := of_decide_eq_true h
theorem toNB {p : Prop} [Decidable p] (h : ¬ decide p = true) : ¬ p := fun z => h (decide_eq_true z)
/-- a well: the digits left, a number that is mixed, how many were mixed (at most c) -/
def WellAt (H : Hp) (a : Addr) (c : Int) : Prop := ∃ x y z : Int, H a = some (.lst [.int x, .int y, .int z]) ∧ 0 ≤ y ∧ y < 2147483647 ∧ 0 ≤ z ∧ z ≤ c
theorem WellAt.mono {H : Hp} {a : Addr} {c d : Int} (h : WellAt H a c) (l : c ≤ d) : WellAt H a d := by
  obtain ⟨x, y, z, e, h1, h2, h3, h4⟩ := h
  exact ⟨x, y, z, e, h1, h2, h3, by omega⟩
theorem WellAt.same {H H' : Hp} {a : Addr} {c : Int} (h : WellAt H a c) (s : Same H H') : WellAt H' a c := by
  obtain ⟨x, y, z, e, h1, h2, h3, h4⟩ := h
  exact ⟨x, y, z, s _ _ e, h1, h2, h3, h4⟩
theorem WellAt.but {H H' : Hp} {a b : Addr} {c : Int} (h : WellAt H a c) (s : SameBut b H H') (n : a ≠ b) : WellAt H' a c := by
  obtain ⟨x, y, z, e, h1, h2, h3, h4⟩ := h
  exact ⟨x, y, z, s _ _ n e, h1, h2, h3, h4⟩
/-! ### promises of the law's helpers -/
def spCell (K : PySem.W.Frag) : Sp := fun vs H Q _ => ∃ (a : Addr) (ns : List Int) (k : Nat), vs = [.ref a, .int k] ∧ SqL K H a (ns.map V.int) ∧ Q (.int (ns.getD k 0)) H
def spWell : Sp := fun vs H Q _ => ∃ c : Int, vs = [.int c] ∧ ∀ p : Addr, H p = none → ∀ H', Same H H' → WellAt H' p 0 → Q (.ref p) H'
/-- a number from 0 to below m; the well has at most one more -/
def spDraw : Sp := fun vs H Q _ => ∃ (a : Addr) (c m : Int), vs = [.ref a, .int m] ∧ WellAt H a c ∧ c ≤ 1000000000 ∧ 0 < m ∧ m.natAbs < 2 ^ 9000 ∧
  ∀ (r : Int) (H' : Hp), 0 ≤ r → r < m → SameBut a H H' → (∀ b, H b = none → H' b = none) → WellAt H' a (c + 1) → Q (.int r) H'
def topS (i : Nat) : Stmt := PySem.Challenge.pw_echobound_k37_a_number_spelled.main.body.getD i (.Pass ⟨0, 0, 0, 0⟩)
abbrev s_spelled : Stmt := topS 1
abbrev s__law_well : Stmt := topS 3
abbrev s__law_draw : Stmt := topS 4
abbrev s__law_sum_of : Stmt := topS 5
abbrev s__law_many : Stmt := topS 6
abbrev s__law_right : Stmt := topS 7
abbrev s_law : Stmt := topS 8
/-! ### digits -1, 0, 1 -/
def dg (n : Int) : Int := if n % 2 = 0 then 0 else 2 - n % 4
theorem dg_half {n : Int} (h : n ≠ 0) : ((n - dg n) / 2).natAbs < n.natAbs := by
  unfold dg
  split <;> omega
def naf (n : Int) : List Int := if h : n = 0 then [] else dg n :: naf ((n - dg n) / 2)
termination_by n.natAbs
decreasing_by exact dg_half h
theorem naf_zero : naf 0 = [] := by
  unfold naf
  rfl
theorem naf_ne {n : Int} (h : n ≠ 0) : naf n = dg n :: naf ((n - dg n) / 2) := by
  rw [naf, dif_neg h]
theorem naf_len (k : Nat) : ∀ n : Int, n.natAbs ≤ 2 ^ k → (naf n).length ≤ k + 1 := by
  induction k with
  | zero =>
    intro n h
    by_cases e : n = 0
    · rw [e, naf_zero]
      exact Nat.zero_le _
    · rw [naf_ne e]
      have : (n - dg n) / 2 = 0 := by
        have h1 : n.natAbs ≤ 1 := h
        unfold dg
        split <;> omega
      rw [this, naf_zero]
      exact Nat.le_refl _
  | succ k ih =>
    intro n h
    by_cases e : n = 0
    · rw [e, naf_zero]
      exact Nat.zero_le _
    · rw [naf_ne e]
      have h1 : n.natAbs ≤ 2 * 2 ^ k := by
        rw [Nat.pow_succ] at h
        omega
      have : ((n - dg n) / 2).natAbs ≤ 2 ^ k := by
        unfold dg
        split <;> omega
      have := ih _ this
      rw [List.length_cons]
      omega
theorem dg_range (n : Int) : -1 ≤ dg n ∧ dg n ≤ 1 := by
  unfold dg
  split <;> omega
theorem naf_range (k : Nat) : ∀ (n x : Int), (naf n)[k]? = some x → -1 ≤ x ∧ x ≤ 1 := by
  induction k with
  | zero =>
    intro n x h
    by_cases e : n = 0
    · rw [e, naf_zero] at h
      cases h
    · rw [naf_ne e] at h
      cases h
      exact dg_range n
  | succ k ih =>
    intro n x h
    by_cases e : n = 0
    · rw [e, naf_zero] at h
      cases h
    · rw [naf_ne e] at h
      exact ih _ x h
theorem naf_apart (k : Nat) : ∀ (n x y : Int), (naf n)[k]? = some x → (naf n)[k + 1]? = some y → x = 0 ∨ y = 0 := by
  induction k with
  | zero =>
    intro n x y h g
    by_cases e : n = 0
    · rw [e, naf_zero] at h
      cases h
    · rw [naf_ne e] at h g
      cases h
      have g2 : (naf ((n - dg n) / 2))[0]? = some y := g
      by_cases e2 : (n - dg n) / 2 = 0
      · rw [e2, naf_zero] at g2
        cases g2
      · rw [naf_ne e2] at g2
        cases g2
        by_cases c : n % 2 = 0
        · left
          unfold dg
          rw [if_pos c]
        · right
          have d1 : dg n = 2 - n % 4 := by
            unfold dg
            rw [if_neg c]
          have : (n - dg n) / 2 % 2 = 0 := by
            rw [d1]
            omega
          unfold dg at this ⊢
          rw [if_pos this]
  | succ k ih =>
    intro n x y h g
    by_cases e : n = 0
    · rw [e, naf_zero] at h
      cases h
    · rw [naf_ne e] at h g
      exact ih _ x y h g
def sumD : List Int → Int
  | [] => 0
  | d :: t => d + 2 * sumD t
theorem dg_even (n : Int) : (n - dg n) % 2 = 0 := by
  unfold dg
  split <;> omega
theorem sumD_naf_k (k : Nat) : ∀ n : Int, n.natAbs ≤ k → sumD (naf n) = n := by
  induction k with
  | zero =>
    intro n h
    have e : n = 0 := by omega
    rw [e, naf_zero]
    rfl
  | succ k ih =>
    intro n h
    by_cases e : n = 0
    · rw [e, naf_zero]
      rfl
    · rw [naf_ne e]
      have := dg_half e
      have i := ih ((n - dg n) / 2) (by omega)
      show dg n + 2 * sumD (naf ((n - dg n) / 2)) = n
      rw [i]
      have := dg_even n
      omega
theorem sumD_naf (n : Int) : sumD (naf n) = n := sumD_naf_k _ n (Nat.le_refl _)
theorem naf_nil {n : Int} (h : naf n = []) : n = 0 := by
  rw [← sumD_naf n, h]
  rfl
theorem naf_last_k (k : Nat) : ∀ n : Int, n.natAbs ≤ k → n ≠ 0 → (naf n)[(naf n).length - 1]? ≠ some 0 ∧ 0 < (naf n).length := by
  induction k with
  | zero =>
    intro n h e
    exact absurd (by omega) e
  | succ k ih =>
    intro n h e
    have hh := dg_half e
    rw [naf_ne e]
    by_cases e2 : (n - dg n) / 2 = 0
    · rw [e2, naf_zero]
      refine ⟨fun z => ?_, Nat.zero_lt_one⟩
      have z2 : dg n = 0 := by
        have : (dg n :: ([] : List Int))[([dg n] : List Int).length - 1]? = some (dg n) := rfl
        rw [this] at z
        exact Option.some.inj z
      have := dg_even n
      omega
    · obtain ⟨i1, i2⟩ := ih _ (by omega) e2
      refine ⟨?_, by rw [List.length_cons]; omega⟩
      rw [List.length_cons, show (naf ((n - dg n) / 2)).length + 1 - 1 = ((naf ((n - dg n) / 2)).length - 1) + 1 by omega, List.getElem?_cons_succ]
      exact i1
theorem naf_last {n : Int} (h : n ≠ 0) : (naf n)[(naf n).length - 1]? ≠ some 0 ∧ 0 < (naf n).length := naf_last_k _ n (Nat.le_refl _) h
def cnt (l : List Int) : Nat := (l.filter fun d => decide (d ≠ 0)).length
theorem cnt_cons0 {d : Int} {t : List Int} (h : d = 0) : cnt (d :: t) = cnt t := by
  subst h
  rfl
theorem cnt_cons1 {d : Int} {t : List Int} (h : d ≠ 0) : cnt (d :: t) = cnt t + 1 := by
  unfold cnt
  rw [List.filter_cons, if_pos (decide_eq_true h)]
  rfl
def wt (n : Int) : Nat := cnt (naf n)
theorem wt_zero : wt 0 = 0 := by
  unfold wt
  rw [naf_zero]
  rfl
theorem wt_even (m : Int) : wt (2 * m) = wt m := by
  by_cases e : m = 0
  · rw [e]
    rfl
  · have d0 : dg (2 * m) = 0 := by
      unfold dg
      rw [if_pos (by omega)]
    unfold wt
    rw [naf_ne (n := 2 * m) (by omega), cnt_cons0 d0, d0, show (2 * m - 0) / 2 = m by omega]
theorem wt_odd {n m : Int} (h : n % 2 = 1) (e : (n - (2 - n % 4)) = 2 * m) : wt n = wt m + 1 := by
  have d1 : dg n = 2 - n % 4 := by
    unfold dg
    rw [if_neg (by omega)]
  have e2 : (n - dg n) / 2 = m := by
    rw [d1]
    omega
  unfold wt
  rw [naf_ne (by omega), cnt_cons1 (by rw [d1]; omega), e2]
theorem wt_near (k : Nat) : ∀ s : Int, s.natAbs ≤ k → wt (2 * s + 1) ≤ wt s + 1 ∧ wt (2 * s - 1) ≤ wt s + 1 := by
  induction k with
  | zero =>
    intro s h
    have e : s = 0 := by omega
    subst e
    have e1 := wt_odd (n := 2 * 0 + 1) (m := 0) (by decide) (by decide)
    have e2 := wt_odd (n := 2 * 0 - 1) (m := 0) (by decide) (by decide)
    omega
  | succ k ih =>
    intro s h
    by_cases c : s % 2 = 0
    · have e1 := wt_odd (n := 2 * s + 1) (m := s) (by omega) (by omega)
      have e2 := wt_odd (n := 2 * s - 1) (m := s) (by omega) (by omega)
      omega
    · have e1 := wt_odd (n := 2 * s + 1) (m := s + 1) (by omega) (by omega)
      have e2 := wt_odd (n := 2 * s - 1) (m := s - 1) (by omega) (by omega)
      rw [e1, e2]
      by_cases c4 : s % 4 = 1
      · -- s = 4 j + 1
        obtain ⟨j, hj⟩ : ∃ j, s = 4 * j + 1 := ⟨s / 4, by omega⟩
        have i := (ih j (by omega)).1
        have w1 := wt_odd (n := s) (m := 2 * j) (by omega) (by omega)
        have w2 := wt_even j
        have w3 := wt_even (2 * j)
        have w4 := wt_even (2 * j + 1)
        rw [show s + 1 = 2 * (2 * j + 1) by omega, show s - 1 = 2 * (2 * j) by omega, w4, w3, w1]
        omega
      · obtain ⟨j, hj⟩ : ∃ j, s = 4 * j - 1 := ⟨(s + 1) / 4, by omega⟩
        have i := (ih j (by omega)).2
        have w1 := wt_odd (n := s) (m := 2 * j) (by omega) (by omega)
        have w2 := wt_even j
        have w3 := wt_even (2 * j)
        have w4 := wt_even (2 * j - 1)
        rw [show s - 1 = 2 * (2 * j - 1) by omega, show s + 1 = 2 * (2 * j) by omega, w4, w3, w1]
        omega
theorem wt_least : ∀ ds : List Int, (∀ d ∈ ds, -1 ≤ d ∧ d ≤ 1) → wt (sumD ds) ≤ cnt ds := by
  intro ds
  induction ds with
  | nil =>
    intro _
    show wt 0 ≤ 0
    rw [wt_zero]
    exact Nat.le_refl _
  | cons d t ih =>
    intro h
    have i := ih (fun x hx => h x (List.mem_cons_of_mem _ hx))
    have hd := h d (List.mem_cons_self ..)
    show wt (d + 2 * sumD t) ≤ _
    by_cases c : d = 0
    · rw [cnt_cons0 c, c, Int.zero_add, wt_even]
      exact i
    · rw [cnt_cons1 c]
      have := wt_near _ (sumD t) (Nat.le_refl _)
      by_cases c1 : d = 1
      · rw [c1, Int.add_comm]
        omega
      · have c2 : d = -1 := by omega
        rw [c2, show -1 + 2 * sumD t = 2 * sumD t - 1 by omega]
        omega
theorem naf_neg_k (k : Nat) : ∀ n : Int, n.natAbs ≤ k → naf (0 - n) = (naf n).map (fun d => 0 - d) := by
  induction k with
  | zero =>
    intro n h
    have e : n = 0 := by omega
    rw [e]
    show naf 0 = (naf 0).map _
    rw [naf_zero]
    rfl
  | succ k ih =>
    intro n h
    by_cases e : n = 0
    · rw [e]
      show naf 0 = (naf 0).map _
      rw [naf_zero]
      rfl
    · have hh := dg_half e
      have i := ih _ (show ((n - dg n) / 2).natAbs ≤ k by omega)
      have d1 : dg (0 - n) = 0 - dg n := by
        unfold dg
        by_cases c : n % 2 = 0
        · rw [if_pos c, if_pos (by omega)]
          rfl
        · rw [if_neg c, if_neg (by omega)]
          omega
      rw [naf_ne e, naf_ne (n := 0 - n) (by omega), List.map_cons, ← i, d1]
      have := dg_even n
      rw [show (0 - n - (0 - dg n)) / 2 = 0 - (n - dg n) / 2 by omega]
theorem naf_neg (n : Int) : naf (0 - n) = (naf n).map (fun d => 0 - d) := naf_neg_k _ n (Nat.le_refl _)
theorem sumD_bound : ∀ ds : List Int, (∀ d ∈ ds, -1 ≤ d ∧ d ≤ 1) → (sumD ds).natAbs < 2 ^ ds.length := by
  intro ds
  induction ds with
  | nil =>
    intro _
    decide
  | cons d t ih =>
    intro h
    have i := ih (fun x hx => h x (List.mem_cons_of_mem _ hx))
    have hd := h d (List.mem_cons_self ..)
    show (d + 2 * sumD t).natAbs < 2 ^ (t.length + 1)
    rw [Nat.pow_succ]
    omega

section
variable {P : Program} {w : World} {K : PySem.W.Frag} {mg : Str → Option Value} {base : Heap}

end
end E1

namespace E1
open PySem PySem.Spec PyProof.Rows L2
structure Zs (mg : Str → Option Value) : Prop where
  int : mg "int" = none
  len : mg "len" = none
  isinstance : mg "isinstance" = none
  list : mg "list" = none
  enumerate : mg "enumerate" = none
  bool : mg "bool" = none
  range : mg "range" = none

theorem iteN {c A B : Prop} [Decidable c] (h1 : ¬ c → A) (h2 : c → B) : if (!decide c) = true then A else B := by
  by_cases h : c
  · rw [decide_eq_true h]
    exact iteF (h2 h)
  · rw [decide_eq_false h]
    exact iteT (h1 h)
theorem vne {i j : Int} (h : ¬ V.int i = V.int j) : i ≠ j := fun e => h (by rw [e])
theorem veq {i j : Int} (h : V.int i = V.int j) : i = j := by
  cases h
  rfl
/-- a number from 0 to below m; the well has at most one more; something new may stand there -/
def spDrawN : Sp := fun vs H Q _ => ∃ (a : Addr) (c m : Int), vs = [.ref a, .int m] ∧ WellAt H a c ∧ c ≤ 1000000000 ∧ 0 < m ∧ m.natAbs < 2 ^ 9000 ∧
  ∀ (r : Int) (H' : Hp), 0 ≤ r → r < m → SameBut a H H' → WellAt H' a (c + 1) → Q (.int r) H'
def primes : List V := [.int 2147483629, .int 2147483587, .int 2147483579, .int 2147483563, .int 2147483549]
theorem prime_at {r : Int} (h0 : 0 ≤ r) (h1 : r < 5) : ∃ p : Int, atI primes r = some (.int p) ∧ 2147483549 ≤ p ∧ p ≤ 2147483629 := by
  have h : r = 0 ∨ r = 1 ∨ r = 2 ∨ r = 3 ∨ r = 4 := by omega
  rcases h with rfl | rfl | rfl | rfl | rfl
  · exact ⟨_, atI_nat (j := 0) rfl, by decide, by decide⟩
  · exact ⟨_, atI_nat (j := 1) rfl, by decide, by decide⟩
  · exact ⟨_, atI_nat (j := 2) rfl, by decide, by decide⟩
  · exact ⟨_, atI_nat (j := 3) rfl, by decide, by decide⟩
  · exact ⟨_, atI_nat (j := 4) rfl, by decide, by decide⟩
def spSpelled : Sp := fun vs H Q _ => ∃ n : Int, vs = [.int n] ∧ n.natAbs ≤ 2 ^ 200 ∧ ∀ p H', H p = none → Same H H' → H' p = some (.lst ((naf n).map V.int)) → Q (.ref p) H'
def spSum (K : PySem.W.Frag) : Sp := fun vs H Q _ => ∃ (a : Addr) (ds : List Int), vs = [.ref a] ∧ SqL K H a (ds.map V.int) ∧ (∀ d ∈ ds, -1 ≤ d ∧ d ≤ 1) ∧ Q (.int (sumD ds)) H
def spMany (K : PySem.W.Frag) : Sp := fun vs H Q _ => ∃ (a : Addr) (ds : List Int), vs = [.ref a] ∧ SqL K H a (ds.map V.int) ∧ ds.length ≤ 1000 ∧ ∀ H', Same H H' → Q (.int (cnt ds)) H'
def spRight : Sp := fun vs H Q _ => ∃ (a : Addr) (n : Int), vs = [.ref a, .int n] ∧ H a = some (.lst ((naf n).map V.int)) ∧ ∀ H', Same H H' → Q (.bl true) H'
theorem naf_mem {n d : Int} (h : d ∈ naf n) : -1 ≤ d ∧ d ≤ 1 := by
  obtain ⟨k, hk⟩ := List.getElem?_of_mem h
  exact naf_range k n d hk
section
variable {P : Program} {w : World} {K : PySem.W.Frag} {mg : Str → Option Value} {base : Heap}
theorem sc__law_well : FnScope ["_law_cell"] ["_law_cell"] (defScope s__law_well) := ⟨rfl, rfl, rfl, by decide +kernel, rfl, by decide +kernel, by decide +kernel⟩
theorem sc__law_draw : FnScope ["_law_well_here", "_law_many_here", "_law_found", "_law_prime", "_law_mixed"] ["_law_well_here", "_law_many_here"] (defScope s__law_draw) := ⟨rfl, rfl, rfl, by decide +kernel, rfl, by decide +kernel, by decide +kernel⟩
theorem sc_spelled : FnScope ["number", "digits", "digit"] ["number"] (defScope s_spelled) := ⟨rfl, rfl, rfl, by decide +kernel, rfl, by decide +kernel, by decide +kernel⟩
theorem sc__law_sum_of : FnScope ["_law_digits", "_law_found", "_law_by", "_law_digit"] ["_law_digits"] (defScope s__law_sum_of) := ⟨rfl, rfl, rfl, by decide +kernel, rfl, by decide +kernel, by decide +kernel⟩
theorem sc__law_many : FnScope ["_law_digits", "_law_digit"] ["_law_digits"] (defScope s__law_many) := ⟨rfl, rfl, rfl, by decide +kernel, rfl, by decide +kernel, by decide +kernel⟩
theorem ok_well {f : Addr} {fd : FuncData} {k : Nat} (F : Fun K "_law_well" "_law_well" s__law_well f fd) (zi : mg "int" = none) : FnOk P w K mg base CX0 (k + 1) f fd ["_law_cell"] spWell := by
  refine F.ok sc__law_well (fun vs H Q E h => ?_) (fun cdv A outer s H vs Q E hr h => ?_)
  · obtain ⟨c, rfl, _⟩ := h
    rfl
  · obtain ⟨c, rfl, q⟩ := h
    refine ⟨_, (pss_one (ps_ret (pe_lst (pa_cons (pe_op op_mul (pv 0) (pe_callTy call_int1 (by rfl) zi (by decide +kernel) (pa_cons (pe_cmpR op_ge (pv 0) (pe_op op_pow pe_int pe_int) (nomark _)) pa_nil))) (pa_cons (pe_op op_mod (pv 0) pe_int) (pa_cons pe_int pa_nil)))))), ?_⟩
    refine ⟨_, rfl, _, rfl, _, _, rfl, rfl, ⟨by decide, by decide, by decide⟩, _, _, rfl, rfl, .inr ⟨_, rfl, _, _, rfl, rfl, .inr ?_, ?_⟩⟩
    · split <;> decide
    · refine ⟨_, rfl, _, _, rfl, rfl, (by show (0 : Int) < 2147483647; decide), (by show 3 ≤ sizeLine; decide), fun p hp => ?_⟩
      exact q p hp _ (same_new hp) ⟨_, _, _, upd_same, Int.emod_nonneg _ (by decide), Int.emod_lt_of_pos _ (by decide), Int.le_refl _, Int.le_refl _⟩
theorem ok_draw {f : Addr} {fd : FuncData} {k : Nat} (F : Fun K "_law_draw" "_law_draw" s__law_draw f fd) : FnOk P w K mg base CX0 (k + 1) f fd ["_law_well_here", "_law_many_here"] spDrawN := by
  refine F.ok sc__law_draw (fun vs H Q E h => ?_) (fun cdv A outer s H vs Q E hr h => ?_)
  · obtain ⟨a, c, m, rfl, _⟩ := h
    rfl
  · obtain ⟨a, c, m, rfl, ⟨x, y, z, hw, y0, y1, z0, z1⟩, hc, m0, m1, q⟩ := h
    refine ⟨_, (pss_cons (ps_if (pt_cmpR op_gt (pe_ix ix_list (pv 0) pe_int (fun _ _ => rfl)) pe_int (nomark _)) (pss_cons (ps_set (i := 2) sc__law_draw.nd rfl (.inl rfl) (pe_op op_mod (pe_ix ix_list (pv 0) pe_int (fun _ _ => rfl)) (pv 1)))
      (pss_cons (ps_asg (pe_op op_fdivW (pe_ix ix_list (pv 0) pe_int (fun _ _ => rfl)) (pv 1)) (pg_sub (pv 0) pe_int set_list))
      (pss_one (ps_ret (pv 2))))) pss_nil)
      (pss_cons (ps_asg (pe_op op_add (pe_ix ix_list (pv 0) pe_int (fun _ _ => rfl)) pe_int) (pg_sub (pv 0) pe_int set_list))
      (pss_cons (ps_set (i := 3) sc__law_draw.nd rfl (.inl rfl) (pe_ix ix_list (pe_lst (pa_cons pe_int (pa_cons pe_int (pa_cons pe_int (pa_cons pe_int (pa_cons pe_int pa_nil)))))) (pe_op op_mod (pe_ix ix_list (pv 0) pe_int (fun _ _ => rfl)) pe_int) (fun _ _ => rfl)))
      (pss_cons (ps_set (i := 4) sc__law_draw.nd rfl (.inl rfl) (pe_op op_mod (pe_op op_pow (pe_op op_add (pe_op op_add (pe_ix ix_list (pv 0) pe_int (fun _ _ => rfl)) (pe_op op_mul pe_int (pe_ix ix_list (pv 0) pe_int (fun _ _ => rfl)))) pe_int) pe_int) (pv 3)))
      (pss_cons (ps_set (i := 4) sc__law_draw.nd rfl (.inl rfl) (pe_op op_mod (pe_op op_mul (pe_op op_add (pv 4) (pe_ix ix_list (pv 0) pe_int (fun _ _ => rfl))) (pe_op op_add (pe_op op_fdiv (pv 4) pe_int) pe_int)) (pv 3)))
      (pss_one (ps_ret (pe_op op_mod (pe_op op_fdiv (pv 4) pe_int) (pv 1))))))))), ?_⟩
    refine ⟨_, rfl, a, _, 0, .int x, rfl, rfl, SqL.of hw, a0, x, 0, rfl, rfl, _, rfl, ite2 (fun c => ?_) (fun c => ?_)⟩
    · refine ⟨_, rfl, a, _, 0, .int x, rfl, rfl, SqL.of hw, a0, _, rfl, x, m, rfl, rfl, m0, ?_⟩
      refine ⟨_, rfl, a, _, 0, .int x, rfl, rfl, SqL.of hw, a0, _, rfl, x, m, rfl, rfl, wide_div m0 m1 (by decide) (Nat.le_refl _), _, rfl, a, _, 0, 0, rfl, rfl, hw, rfl, ?_⟩
      refine ⟨_, rfl, q _ _ (Int.emod_nonneg _ (by omega)) (Int.emod_lt_of_pos _ m0) SameBut.upd ⟨_, _, _, upd_same, y0, y1, z0, by omega⟩⟩
    · refine ⟨_, rfl, a, _, 2, .int z, rfl, rfl, SqL.of hw, a2, z, 1, rfl, rfl, _, rfl, a, _, 2, 2, rfl, rfl, hw, rfl, ?_⟩
      have hw2 : (upd H a (.lst [V.int x, V.int y, V.int (z + 1)])) a = some (.lst [V.int x, V.int y, V.int (z + 1)]) := upd_same
      obtain ⟨pr, hpr, p0, p1⟩ := prime_at (r := (z + 1) % 5) (Int.emod_nonneg _ (by decide)) (Int.emod_lt_of_pos _ (by decide))
      refine ⟨(by show 5 ≤ sizeLine; decide), fun l hl => ?_⟩
      have hw3 := same_new (o := .lst primes) hl _ _ hw2
      refine ⟨_, rfl, a, _, 2, .int (z + 1), rfl, rfl, SqL.of hw3, a2, _, _, rfl, rfl, (by show (0 : Int) < 5; decide), l, primes, _, _, rfl, rfl, SqL.of upd_same, hpr, ?_⟩
      have n5 : 0 ≤ y + 6701 * (z + 1) + 3 ∧ y + 6701 * (z + 1) + 3 < 18446744073709551616 := by omega
      refine ⟨_, rfl, a, _, 1, .int y, rfl, rfl, SqL.of hw3, a1, _, rfl, a, _, 2, .int (z + 1), rfl, rfl, SqL.of hw3, a2, _, _, rfl, rfl, .inl ⟨by decide, by decide⟩, _, _, rfl, rfl, _, _, rfl, rfl, _, _, rfl, rfl, ⟨by decide, by decide, ?_⟩, _, rfl, _, _, rfl, rfl, (by show 0 < pr; omega), ?_⟩
      · show (y + 6701 * (z + 1) + 3).natAbs < 18446744073709551616
        omega
      · generalize hn : (y + 6701 * (z + 1) + 3) ^ (5 : Int).toNat % pr = n
        have n0 : 0 ≤ n := by rw [← hn]; exact Int.emod_nonneg _ (by omega)
        have n1 : n < pr := by rw [← hn]; exact Int.emod_lt_of_pos _ (by omega)
        refine ⟨_, rfl, _, rfl, a, _, 2, .int (z + 1), rfl, rfl, SqL.of hw3, a2, _, _, rfl, rfl, _, rfl, _, _, rfl, rfl, ⟨by decide, by decide⟩, _, _, rfl, rfl, _, _, rfl, rfl, .inl ⟨by omega, by omega⟩, _, rfl, _, _, rfl, rfl, (by show 0 < pr; omega), ?_⟩
        refine ⟨_, rfl, _, _, rfl, rfl, ⟨by decide, by decide⟩, _, rfl, _, _, rfl, rfl, m0, ?_⟩
        exact q _ _ (Int.emod_nonneg _ (by omega)) (Int.emod_lt_of_pos _ m0) (SameBut.upd.trans (SameBut.of (same_new hl))) ⟨_, _, _, hw3, y0, y1, by omega, by omega⟩
theorem ok_spelled {f : Addr} {fd : FuncData} {k : Nat} (F : Fun K "spelled" "spelled" s_spelled f fd) : FnOk P w K mg base CX0 (k + 1) f fd ["number"] spSpelled := by
  refine F.ok sc_spelled (fun vs H Q E h => ?_) (fun cdv A outer s H vs Q E hr h => ?_)
  · obtain ⟨n, rfl, _⟩ := h
    rfl
  · obtain ⟨n, rfl, hn, q⟩ := h
    refine ⟨_, (pss_cons (ps_set (i := 1) sc_spelled.nd rfl (.inl rfl) (pe_lst pa_nil))
      (pss_cons (ps_while PassesOwn.never (pt_cmpR op_ne (pv 0) pe_int (nomark _)) (pss_cons (ps_set (i := 2) sc_spelled.nd rfl (.inl rfl) pe_int)
      (pss_cons (ps_if (pt_truth (pe_op op_and (pv 0) pe_int) (by intro _; rfl)) (pss_one (ps_set (i := 2) sc_spelled.nd rfl (.inl rfl) (pe_op op_sub pe_int (pe_op op_and (pv 0) pe_int)))) pss_nil)
      (pss_cons (ps_expr (pe_bm PySem.F.plainAttrs_list PySem.F.slot_list_append PySem.F.type_list_append mt_append (pv 1) (pa_cons (pv 2) pa_nil)))
      (pss_one (ps_set (i := 0) sc_spelled.nd rfl (.inl rfl) (pe_op op_shr (pe_op op_sub (pv 0) (pv 2)) pe_int)))))))
      (pss_one (ps_ret (pv 1))))), ?_⟩
    have hlen := naf_len 200 n hn
    refine ⟨(by show 0 ≤ sizeLine; decide), fun l hl => ?_⟩
    dsimp only [gName, tSeq]
    refine while_by (fun σ H' => ∃ (m : Int) (acc : List Int) (y : Option V), σ = [some (.int m), some (.ref l), y] ∧ Same H H' ∧ H' l = some (.lst (acc.map V.int)) ∧ acc ++ naf m = naf n)
      (fun σ _ => match σ with | [some (.int m), _, _] => m.natAbs | _ => 0) ⟨n, [], none, rfl, same_new hl, upd_same, rfl⟩ (fun σ H1 hP => ?_) (fun σ H Q Q' m hh => ?_)
    · obtain ⟨m, acc, y, rfl, s1, hacc, hh⟩ := hP
      refine ⟨_, rfl, rfl, _, rfl, iteN (fun c => ?_) (fun c => ?_)⟩
      · have hm : m ≠ 0 := vne c
        have hhalf := dg_half hm
        rw [naf_ne hm] at hh
        have hl2 : acc.length < 1000 := by
          have := congrArg List.length hh
          rw [List.length_append, List.length_cons] at this
          omega
        refine ⟨_, rfl, _, _, rfl, rfl, _, rfl, ?_⟩
        rw [bitAnd_m1]
        have fin : ∀ d : Int, d = dg m → ∃ (m' : Int) (acc' : List Int) (y' : Option V), [some (.int ((m - d) / 2 ^ (1 : Int).toNat)), some (V.ref l), some (.int d)] = [some (.int m'), some (V.ref l), y'] ∧ Same H (upd H1 l (.lst (acc.map V.int ++ [.int d]))) ∧ (upd H1 l (.lst (acc.map V.int ++ [.int d]))) l = some (.lst (acc'.map V.int)) ∧ acc' ++ naf m' = naf n := fun d hd => by
          refine ⟨_, acc ++ [d], _, rfl, fun b o e => ?_, ?_, ?_⟩
          · rw [upd_ne (ne_of_none e hl)]
            exact s1 _ _ e
          · rw [upd_same, List.map_append]
            rfl
          · rw [hd, List.append_assoc]
            exact hh
        have mu : ∀ d : Int, d = dg m → ((m - d) / 2 ^ (1 : Int).toNat).natAbs < m.natAbs := fun d hd => by
          rw [hd]
          exact hhalf
        have app : ∀ d : Int, d = dg m → acc.length < sizeLine := fun _ _ => small1000 (by omega)
        have hlst : (acc.map V.int).length < sizeLine := by
          rw [List.length_map]
          exact small1000 (by omega)
        by_cases c2 : m % 2 = 0
        · have d0 : (0 : Int) = dg m := by
            unfold dg
            rw [if_pos c2]
          rw [c2]
          refine iteF ?_
          exact ⟨_, rfl, .inl ⟨rfl, _, SqL.of hacc⟩, _, rfl, l, _, _, rfl, rfl, hacc, hlst, _, rfl, _, rfl, _, _, rfl, rfl, _, _, rfl, rfl, (by show (0 : Int) ≤ 1; decide), fin 0 d0, mu 0 d0⟩
        · have d1 : 2 - m % 4 = dg m := by
            unfold dg
            rw [if_neg c2]
          have e1 : m % 2 = 1 := by omega
          rw [e1]
          refine iteT ⟨_, rfl, _, _, rfl, rfl, _, _, rfl, rfl, ?_⟩
          rw [bitAnd_m2]
          exact ⟨_, rfl, .inl ⟨rfl, _, SqL.of hacc⟩, _, rfl, l, _, _, rfl, rfl, hacc, hlst, _, rfl, _, rfl, _, _, rfl, rfl, _, _, rfl, rfl, (by show (0 : Int) ≤ 1; decide), fin _ d1, mu _ d1⟩
      · have hm : m = 0 := veq c
        subst hm
        rw [naf_zero, List.append_nil] at hh
        rw [hh] at hacc
        exact ⟨_, rfl, q l H1 hl s1 hacc⟩
    · obtain ⟨v, e, sc, kk, ek, hq⟩ := hh
      exact ⟨v, e, sc, kk, ek, m _ _ hq⟩
theorem ok__law_sum_of {f : Addr} {fd : FuncData} {k : Nat} (F : Fun K "_law_sum_of" "_law_sum_of" s__law_sum_of f fd) : FnOk P w K mg base CX0 (k + 1) f fd ["_law_digits"] (spSum K) := by
  refine F.ok sc__law_sum_of (fun vs H Q E h => ?_) (fun cdv A outer s H vs Q E hr h => ?_)
  · obtain ⟨a, ds, rfl, _⟩ := h
    rfl
  · obtain ⟨a, ds, rfl, hS, hd, q⟩ := h
    refine ⟨_, (pss_cons (ps_set (i := 1) sc__law_sum_of.nd rfl (.inl rfl) pe_int)
      (pss_cons (ps_set (i := 2) sc__law_sum_of.nd rfl (.inl rfl) pe_int)
      (pss_cons (ps_for PassesOwn.never rfl (pi_list (pv 0)) (pg_name (i := 3) sc__law_sum_of.nd rfl (.inl rfl)) (pss_cons (ps_set (i := 1) sc__law_sum_of.nd rfl (.inl rfl) (pe_op op_add (pv 1) (pe_op op_mul (pv 3) (pv 2))))
      (pss_one (ps_set (i := 2) sc__law_sum_of.nd rfl (.inl rfl) (pe_op op_mul pe_int (pv 2))))))
      (pss_one (ps_ret (pv 1)))))), ?_⟩
    refine ⟨_, rfl, a, rfl, ⟨_, hS⟩, for_list (K := K) (a := a) (xs := ds.map V.int) (fun i σ H' => H' = H ∧ ∃ (f : Int) (y : Option V), σ = [some (.ref a), some (.int f), some (.int (2 ^ i)), y] ∧ f + 2 ^ i * sumD (ds.drop i) = sumD ds) ⟨rfl, 0, none, rfl, ?_⟩ (fun i σ H' _ hP => hP.1 ▸ hS) (fun i x σ H' hx hP => ?_) (fun σ H' hP => ?_)⟩
    · show 0 + 1 * sumD ds = sumD ds
      omega
    · obtain ⟨rfl, f, y, rfl, hf⟩ := hP
      rw [List.getElem?_map] at hx
      obtain ⟨d, hi, rfl⟩ := Option.map_eq_some_iff.mp hx
      have hd' := hd d (List.mem_of_getElem? hi)
      obtain ⟨hlt, hdi⟩ := List.getElem?_eq_some_iff.mp hi
      have e : ds.drop i = d :: ds.drop (i + 1) := by
        rw [List.drop_eq_getElem_cons hlt, hdi]
      refine ⟨_, rfl, _, rfl, _, rfl, _, _, rfl, rfl, .inl ⟨by omega, by omega⟩, _, _, rfl, rfl, _, rfl, _, _, rfl, rfl, .inl ⟨by decide, by decide⟩, rfl, f + d * 2 ^ i, some (V.int d), ?_, ?_⟩
      · show [some (V.ref a), some (V.int (f + d * 2 ^ i)), some (V.int (2 * 2 ^ i)), some (V.int d)] = _
        rw [show (2 : Int) ^ (i + 1) = 2 * 2 ^ i by rw [Int.pow_succ, Int.mul_comm]]
      · rw [← hf, e]
        show f + d * 2 ^ i + 2 ^ (i + 1) * sumD (ds.drop (i + 1)) = f + 2 ^ i * (d + 2 * sumD (ds.drop (i + 1)))
        rw [Int.mul_add, Int.pow_succ, Int.mul_comm d, Int.mul_assoc (2 ^ i) 2]
        omega
    · obtain ⟨rfl, f, y, rfl, hf⟩ := hP
      rw [List.length_map, List.drop_of_length_le (Nat.le_refl _)] at hf
      have e : f = sumD ds := by
        rw [← hf]
        show f = f + 2 ^ ds.length * 0
        omega
      rw [← e] at q
      exact ⟨_, rfl, q⟩
theorem ok__law_many {f : Addr} {fd : FuncData} {k : Nat} (F : Fun K "_law_many" "_law_many" s__law_many f fd) (z : Zs mg) : FnOk P w K mg base CX0 (k + 1) f fd ["_law_digits"] (spMany K) := by
  refine F.ok sc__law_many (fun vs H Q E h => ?_) (fun cdv A outer s H vs Q E hr h => ?_)
  · obtain ⟨a, ds, rfl, _⟩ := h
    rfl
  · obtain ⟨a, ds, rfl, hS, hl, q⟩ := h
    refine ⟨_, (pss_one (ps_ret (pe_callB call_len_seq (by rfl) z.len PySem.boot_len (pa_cons (pe_lc (own := [("_law_digit", 1)]) (g := gName 1) (by rfl) sc__law_many.nd (pi_list (pv 0)) (blkOk_by (own := [("_law_digit", 1)]) (N := ["_law_digits", "_law_digit"]) (sc := defScope s__law_many) (by decide +kernel)) (fun _ _ _ _ _ => by exact (pg_name (i := 1) sc__law_many.nd rfl (.inl rfl))) (fun _ _ _ _ _ => by exact (pts_one (pt_cmpR op_ne (pv 1) pe_int (nomark _)))) (fun _ _ _ _ _ => by exact (pv 1))) pa_nil)))), ?_⟩
    refine ⟨_, rfl, a, rfl, ⟨_, hS⟩, fun D hD => lc_list (K := K) (a := a) (xs := ds.map V.int) (fun i H' => Same H H' ∧ H' D = some (.lst (((ds.take i).filter fun d => decide (d ≠ 0)).map V.int))) ⟨same_new hD, upd_same⟩ (fun i H' _ hP => hP.1.seq hS) (fun i x H' hx hP => ?_) (fun H' hP => ?_)⟩
    · obtain ⟨s1, hacc⟩ := hP
      rw [List.getElem?_map] at hx
      obtain ⟨d, hi, rfl⟩ := Option.map_eq_some_iff.mp hx
      obtain ⟨hlt, hdi⟩ := List.getElem?_eq_some_iff.mp hi
      have e : ds.take (i + 1) = ds.take i ++ [d] := by
        rw [List.take_succ, hi]
        rfl
      refine ⟨rfl, _, rfl, rfl, _, rfl, iteN (fun c => ?_) (fun c => ?_)⟩
      · have hd : d ≠ 0 := vne c
        refine ⟨_, rfl, _, hacc, small1000 ?_, fun b o eb => ?_, ?_⟩
        · rw [List.length_map]
          have h1 := List.length_filter_le (fun d => decide (d ≠ 0)) (ds.take i)
          have h2 : (ds.take i).length ≤ ds.length := by
            rw [List.length_take]
            omega
          omega
        · rw [upd_ne (ne_of_none eb hD)]
          exact s1 _ _ eb
        · rw [upd_same, e, List.filter_append, List.map_append, List.filter_cons, if_pos (decide_eq_true hd)]
          rfl
      · have hd : d = 0 := veq c
        refine ⟨s1, ?_⟩
        rw [hacc, e, List.filter_append, hd]
        show _ = some (HO.lst ((_ ++ []).map V.int))
        rw [List.append_nil]
    · obtain ⟨s1, hacc⟩ := hP
      rw [List.length_map, List.take_length] at hacc
      refine ⟨D, _, rfl, .inl (SqL.of hacc), ?_⟩
      rw [List.length_map]
      exact q _ s1
end
end E1

namespace E1
open PySem PySem.Spec PyProof.Rows L2

theorem atI_end {α : Type} {xs : List α} {v : α} (h : xs.getLast? = some v) : atI xs (-1) = some v := by
  obtain ⟨ys, rfl⟩ := List.getLast?_eq_some_iff.mp h
  exact atI_last ys v
def spLaw (K : PySem.W.Frag) : Sp := fun vs H Q _ => ∃ (a : Addr) (ns : List Int), vs = [.ref a] ∧ SqL K H a (ns.map V.int) ∧ ns.length ≤ 63 ∧ ∀ H', Q (.bl true) H'
theorem dp_ints {K : PySem.W.Frag} {H : Hp} : ∀ ds : List Int, DpAll K H (ds.map V.int) (ds.map PyData.int)
  | [] => .nil
  | d :: ds => .cons (.int d) (dp_ints ds)
theorem eqv_ints (ds : List Int) : PyData.eqv (.list (ds.map PyData.int)) (.list (ds.map PyData.int)) = true := SeqAt.eqv_refl _ (SeqAt.canLay_of_shaped (PySem.W.shaped_ints ds))
theorem cut_ints (ns : List Int) (lo hi : Option Int) : ∃ cs : List Int, cutV (ns.map V.int) lo hi = cs.map V.int := by
  unfold cutV
  rw [← List.map_drop, ← List.map_take]
  exact ⟨_, rfl⟩
section
variable {P : Program} {w : World} {K : PySem.W.Frag} {mg : Str → Option Value} {base : Heap}
theorem sc__law_right : FnScope ["_law_found", "_law_number", "_law_k", "_law_digit"] ["_law_found", "_law_number"] (defScope s__law_right) := ⟨rfl, rfl, rfl, by decide +kernel, rfl, by decide +kernel, by decide +kernel⟩
theorem ok__law_right {f : Addr} {fd : FuncData} (F : Fun K "_law_right" "_law_right" s__law_right f fd) (z : Zs mg) (c__law_sum_of : Cal P w K mg base 1 "_law_sum_of" ["_law_digits"] (spSum K)) : FnOk P w K mg base CX0 2 f fd ["_law_found", "_law_number"] spRight := by
  refine F.ok sc__law_right (fun vs H Q E h => ?_) (fun cdv A outer s H vs Q E hr h => ?_)
  · obtain ⟨a, n, rfl, _⟩ := h
    rfl
  · obtain ⟨a, n, rfl, hS, q⟩ := h
    refine ⟨_, (pss_cons (ps_if (pt_not (pt_val (pe_callB call_isi (by rfl) z.isinstance (by decide +kernel) (pa_cons (pv 0) (pa_cons (pe_bltn (v := .ty "list") (by rfl) z.list (by decide +kernel) rfl) pa_nil))))) (pss_one (ps_ret pe_bl)) pss_nil)
      (pss_cons (ps_for PassesOwn.never rfl (pi_enum (by rfl) z.enumerate (pa_cons (pv 0) pa_nil)) (pg_tup (by rfl) (pgs_cons (pg_name (i := 2) sc__law_right.nd rfl (.inl rfl)) (pgs_cons (pg_name (i := 3) sc__law_right.nd rfl (.inl rfl)) pgs_nil))) (pss_cons (ps_if (PW.pt (pw_or (pt_not (pt_val (pe_callB call_isi (by rfl) z.isinstance (by decide +kernel) (pa_cons (pv 3) (pa_cons (pe_bltn (v := .ty "int") (by rfl) z.int (by decide +kernel) rfl) pa_nil))))) (pw_or (pt_val (pe_callB call_isi (by rfl) z.isinstance (by decide +kernel) (pa_cons (pv 3) (pa_cons (pe_bltn (v := .ty "bool") (by rfl) z.bool (by decide +kernel) rfl) pa_nil)))) (pw_or1 (pt_not (pt_chain op_le op_le (pe_un un_neg pe_int) (pv 3) pe_int)))))) (pss_one (ps_ret pe_bl)) pss_nil)
      (pss_one (ps_if (PW.pt (pw_and (pt_cmpR op_gt (pv 2) pe_int (nomark _)) (pw_and (pt_cmpR op_ne (pv 3) pe_int (nomark _)) (pw_and1 (pt_cmpR op_ne (pe_ix ix_list (pv 0) (pe_op op_sub (pv 2) pe_int) (fun _ _ => rfl)) pe_int (nomark _)))))) (pss_one (ps_ret pe_bl)) pss_nil))))
      (pss_cons (ps_if (PW.pt (pw_and (pt_cmpR (op_neD hr.units) (pv 0) (pe_lst pa_nil) (nomark _)) (pw_and1 (pt_cmpR op_eq (pe_ix ix_list (pv 0) (pe_un un_neg pe_int) (fun _ _ => rfl)) pe_int (nomark _))))) (pss_one (ps_ret pe_bl)) pss_nil)
      (pss_one (ps_ret (pe_cmpR op_eq (pe_cal c__law_sum_of hr (pa_cons (pv 0) pa_nil)) (pv 1) (nomark _))))))), ?_⟩
    refine ⟨_, rfl, _, .ty "list", _, _, true, rfl, .ty _, .base (.lst hS), kit_ty (by decide +kernel), _, rfl, iteF ?_⟩
    refine ⟨_, rfl, a, _, rfl, SqL.of hS, for_it (walk_enum (K := K) (a := a) (xs := (naf n).map V.int)) (fun i σ H' => ∃ y2 y3 : Option V, σ = [some (.ref a), some (.int n), y2, y3] ∧ Same H H') ⟨none, none, rfl, Same.refl _⟩ (fun i σ H' _ hP => ?_) (fun i v σ H1 H2 hi hP hY => ?_) (fun σ H' hP => ?_)⟩
    · obtain ⟨y3, y4, rfl, s1⟩ := hP
      exact SqL.of (s1 _ _ hS)
    · obtain ⟨y3, y4, rfl, s1⟩ := hP
      obtain ⟨Tp, u, v', rfl, nT, rfl, e1, e2⟩ := hY
      cases e1
      replace e2 : ((naf n).map V.int)[i]? = some v' := e2
      rw [List.getElem?_map] at e2
      obtain ⟨d, hn, rfl⟩ := Option.map_eq_some_iff.mp e2
      have hd := naf_range i n d hn
      have s2 := s1.trans (same_new (o := .tup [.int (i : Nat), .int d]) nT)
      refine ⟨Tp, [.int (i : Nat), .int d], rfl, SqT.of upd_same, rfl, _, _, rfl, _, _, rfl, rfl, ?_⟩
      refine ⟨_, rfl, _, .ty "int", _, _, true, rfl, .ty _, .base (.int d), kit_ty (by decide +kernel), _, rfl, iteF ⟨_, rfl, _, .ty "bool", _, _, false, rfl, .ty _, .base (.int d), kit_ty (by decide +kernel), _, rfl, iteF ?_⟩⟩
      refine ⟨_, rfl, _, rfl, _, _, rfl, rfl, _, rfl, ite2 (fun _ => ⟨_, _, rfl, rfl, _, rfl, iteN (fun c => absurd (show d ≤ 1 from hd.2) c) (fun _ => ?_)⟩) (fun c => absurd (decide_eq_true (show -1 ≤ d from hd.1)) c)⟩
      refine ⟨_, rfl, _, _, rfl, rfl, _, rfl, ite2 (fun c => ?_) (fun c => iteF ⟨_, _, rfl, s2⟩)⟩
      have ci : 0 < i := by
        have := toB c
        omega
      refine ⟨_, rfl, rfl, _, rfl, iteN (fun cd => ?_) (fun _ => iteF ⟨_, _, rfl, s2⟩)⟩
      have ei : ((i : Nat) : Int) - 1 = ((i - 1 : Nat) : Int) := by omega
      have li : i - 1 < (naf n).length := by
        have := (List.getElem?_eq_some_iff.mp hn).1
        omega
      have h0 : (naf n)[i - 1]? = some ((naf n)[i - 1]'li) := List.getElem?_eq_getElem li
      have ap := naf_apart (i - 1) n _ d h0 (by rw [show i - 1 + 1 = i by omega]; exact hn)
      have e0 : (naf n)[i - 1]'li = 0 := ap.resolve_right (vne cd)
      rw [e0] at h0
      refine ⟨_, rfl, _, rfl, _, _, rfl, rfl, a, _, _, .int 0, rfl, rfl, SqL.of (s2 _ _ hS), (by rw [ei]; exact atI_nat (by rw [List.getElem?_map, h0]; rfl)), rfl, _, rfl, iteN (fun c => absurd rfl c) (fun _ => ⟨_, _, rfl, s2⟩)⟩
    · obtain ⟨y3, y4, rfl, s1⟩ := hP
      have hS1 := s1 _ _ hS
      refine ⟨_, rfl, (by show 0 ≤ sizeLine; decide), fun l hl => ?_⟩
      have s2 : Same H (upd H' l (.lst [])) := s1.trans (same_new hl)
      have hS2 := s2 _ _ hS
      refine ⟨.list ((naf n).map PyData.int), .list (([] : List Int).map PyData.int), .lst (SqL.of hS2) (dp_ints _), .lst (SqL.of upd_same) .nil, PySem.W.shaped_ints _, PySem.W.shaped_ints _, _, rfl, ?_⟩
      have fin : ∃ y z : Option V, True := ⟨none, none, trivial⟩
      by_cases e0 : n = 0
      · have ev0 : PyData.eqv (.list ((naf n).map PyData.int)) (.list (([] : List Int).map PyData.int)) = true := by
          rw [e0, naf_zero]
          rfl
        rw [ev0]
        refine iteF (iteF ?_)
        refine ⟨_, rfl, a, naf n, rfl, SqL.of hS2, fun d hd => naf_mem hd, _, rfl, rfl, ?_⟩
        rw [sumD_naf, decide_eq_true rfl]
        exact q _ s2
      · obtain ⟨hla, hp⟩ := naf_last e0
        have ev : PyData.eqv (.list ((naf n).map PyData.int)) (.list (([] : List Int).map PyData.int)) = false := by
          cases hh : naf n with
          | nil =>
            rw [hh] at hp
            exact absurd hp (by decide)
          | cons x t => rfl
        rw [ev]
        have li : (naf n).length - 1 < (naf n).length := by omega
        have hx := List.getElem?_eq_getElem li
        rw [hx] at hla
        refine iteT ⟨_, rfl, _, rfl, a, _, _, .int ((naf n)[(naf n).length - 1]'li), rfl, rfl, SqL.of hS2, ?_, rfl, _, rfl, ite2 (fun c => absurd (by rw [veq (toB c)]) hla) (fun _ => ?_)⟩
        · exact atI_end (by rw [List.getLast?_eq_getElem?, List.length_map, List.getElem?_map, hx]; rfl)
        · refine ⟨_, rfl, a, naf n, rfl, SqL.of hS2, fun d hd => naf_mem hd, _, rfl, rfl, ?_⟩
          rw [sumD_naf, decide_eq_true rfl]
          exact q _ s2
end
end E1

namespace E1
open PySem PySem.Spec PyProof.Rows L2
section
variable {P : Program} {w : World} {K : PySem.W.Frag} {mg : Str → Option Value} {base : Heap}
theorem sc_law : FnScope ["_law_script", "_law_cell", "_law_well_here", "_law_digits", "_law_number", "_law_found", "_law_k", "_law_digit"] ["_law_script"] (defScope s_law) := ⟨rfl, rfl, rfl, by decide +kernel, rfl, by decide +kernel, by decide +kernel⟩
theorem ok_law {f : Addr} {fd : FuncData} (F : Fun K "law" "law" s_law f fd) (z : Zs mg) (c__law_well : Cal P w K mg base 1 "_law_well" ["_law_cell"] spWell) (c__law_draw : Cal P w K mg base 1 "_law_draw" ["_law_well_here", "_law_many_here"] spDrawN) (c_spelled : Cal P w K mg base 1 "spelled" ["number"] spSpelled) (c__law_sum_of : Cal P w K mg base 1 "_law_sum_of" ["_law_digits"] (spSum K)) (c__law_many : Cal P w K mg base 1 "_law_many" ["_law_digits"] (spMany K)) (c__law_right : Cal P w K mg base 2 "_law_right" ["_law_found", "_law_number"] spRight) : FnOk P w K mg base CX0 3 f fd ["_law_script"] (spLaw K) := by
  refine F.ok sc_law (fun vs H Q E h => ?_) (fun cdv A outer s H vs Q E hr h => ?_)
  · obtain ⟨a, ns, rfl, _⟩ := h
    rfl
  · obtain ⟨a, ns, rfl, hS, hn, q⟩ := h
    refine ⟨_, (pss_cons (ps_for PassesOwn.never rfl (pi_list (pe_op op_cat (pe_slice sl_list (pv 0) po_none (po_some pe_int)) (pe_lst (pa_cons pe_int (pa_cons pe_int (pa_cons pe_int (pa_cons pe_int pa_nil))))))) (pg_name (i := 1) sc_law.nd rfl (.inl rfl)) (pss_cons (ps_set (i := 2) sc_law.nd rfl (.inr rfl) (pe_cal c__law_well hr (pa_cons (pv 1) pa_nil)))
      (pss_cons (ps_setLc (i := 3) (own := [("_law_k", 6)]) (g := gName 6) (tt := tYes) (by rfl) sc_law.nd rfl rfl (sw_true rfl rfl rfl (by decide +kernel)) (pi_range1 (by rfl) z.range (pa_cons (pe_cal c__law_draw hr (pa_cons (pv 2) (pa_cons pe_int pa_nil))) pa_nil)) (blkOk_by (own := [("_law_k", 6)]) (N := ["_law_script", "_law_cell", "_law_well_here", "_law_digits", "_law_number", "_law_found", "_law_k", "_law_digit"]) (sc := defScope s_law) (by decide +kernel)) (fun _ _ _ _ _ => by exact (pg_name (i := 6) sc_law.nd rfl (.inl rfl))) (fun _ _ _ _ _ => by exact pts_nil) (fun _ _ _ _ _ => by exact (pe_op op_sub (pe_cal c__law_draw hr (pa_cons (pv 2) (pa_cons pe_int pa_nil))) pe_int)))
      (pss_cons (ps_set (i := 4) sc_law.nd rfl (.inl rfl) (pe_cal c__law_sum_of hr (pa_cons (pv 3) pa_nil)))
      (pss_cons (ps_set (i := 5) sc_law.nd rfl (.inl rfl) (pe_cal c_spelled hr (pa_cons (pv 4) pa_nil)))
      (pss_cons (ps_if (PW.pt (pw_or (pt_not (pt_val (pe_cal c__law_right hr (pa_cons (pv 5) (pa_cons (pv 4) pa_nil))))) (pw_or1 (pt_cmpR op_gt (pe_cal c__law_many hr (pa_cons (pv 5) pa_nil)) (pe_cal c__law_many hr (pa_cons (pv 3) pa_nil)) (nomark _))))) (pss_one (ps_ret pe_bl)) pss_nil)
      (pss_cons (ps_if (pt_cmpR (op_neD hr.units) (pe_cal c_spelled hr (pa_cons (pe_op op_sub pe_int (pv 4)) pa_nil)) (pe_lc (own := [("_law_digit", 7)]) (g := gName 7) (tt := tYes) (by rfl) sc_law.nd (pi_list (pv 5)) (blkOk_by (own := [("_law_digit", 7)]) (N := ["_law_script", "_law_cell", "_law_well_here", "_law_digits", "_law_number", "_law_found", "_law_k", "_law_digit"]) (sc := defScope s_law) (by decide +kernel)) (fun _ _ _ _ _ => by exact (pg_name (i := 7) sc_law.nd rfl (.inl rfl))) (fun _ _ _ _ _ => by exact pts_nil) (fun _ _ _ _ _ => by exact (pe_op op_sub pe_int (pv 7)))) (nomark _)) (pss_one (ps_ret pe_bl)) pss_nil)
      (pss_cons (ps_set (i := 4) sc_law.nd rfl (.inl rfl) (pe_op op_sub (pe_op op_add (pe_op op_mod (pv 1) (pe_op op_sub (pe_op op_mul pe_int (pe_op op_pow pe_int pe_int)) pe_int)) pe_int) (pe_op op_pow pe_int pe_int)))
      (pss_one (ps_if (pt_not (pt_val (pe_cal c__law_right hr (pa_cons (pe_cal c_spelled hr (pa_cons (pv 4) pa_nil)) (pa_cons (pv 4) pa_nil))))) (pss_one (ps_ret pe_bl)) pss_nil))))))))))
      (pss_one (ps_ret pe_bl))), ?_⟩
    obtain ⟨cs, hcs⟩ := cut_ints ns none (some 63)
    have hcl := cutV_length (ns.map V.int) none (some 63)
    rw [List.length_map] at hcl
    refine ⟨_, rfl, _, rfl, a, _, rfl, hS, fun p1 h1 => ⟨(by show 4 ≤ sizeLine; decide), fun p2 h2 => ?_⟩⟩
    refine ⟨p1, p2, _, _, rfl, rfl, same_new h2 _ _ upd_same, upd_same, Nat.le_trans (Nat.add_le_add_right (Nat.le_trans hcl hn) _) (by decide), fun L hL => ?_⟩
    have hLi : cutV (ns.map V.int) none (some 63) ++ [V.int 0, V.int 1, V.int 2, V.int 3] = (cs ++ [0, 1, 2, 3]).map V.int := by
      rw [hcs, List.map_append]
      rfl
    refine ⟨L, rfl, ⟨_, SqL.of upd_same⟩, for_list (K := K) (a := L) (xs := (cs ++ [0, 1, 2, 3]).map V.int) (fun i σ H' => H' L = some (.lst ((cs ++ [0, 1, 2, 3]).map V.int)) ∧ ∃ y1 y2 y3 y4 y5 : Option V, σ = [some (.ref a), y1, y2, y3, y4, y5, none, none]) ⟨by rw [← hLi]; exact upd_same, none, none, none, none, none, rfl⟩ (fun i σ H' _ hP => SqL.of hP.1) (fun i x σ H0 hx hP => ?_) (fun σ H' hP => ?_)⟩
    · obtain ⟨l0, y1, y2, y3, y4, y5, rfl⟩ := hP
      clear hLi
      rw [List.getElem?_map] at hx
      obtain ⟨c, hi, rfl⟩ := Option.map_eq_some_iff.mp hx
      refine ⟨_, rfl, c, rfl, fun p hp H1 s1 w1 => ?_⟩
      have l1 := s1 _ _ l0
      have pL : L ≠ p := ne_of_none l0 hp
      refine ⟨_, rfl, p, 0, 132, rfl, w1, by decide, by decide, by decide, fun r H2 r0 r1 b2 w2 => ?_⟩
      have l2 := b2 _ _ pL l1
      refine ⟨r, rfl, by omega, by omega, fun D hD => lc_range (lo := 0) (n := r.toNat) (fun i H' => ∃ ds : List Int, ds.length = i ∧ (∀ d ∈ ds, -1 ≤ d ∧ d ≤ 1) ∧ H' D = some (.lst (ds.map V.int)) ∧ H' L = some (.lst ((cs ++ [0, 1, 2, 3]).map V.int)) ∧ WellAt H' p (1 + i)) ⟨[], rfl, (fun d hd => absurd hd (List.not_mem_nil)), upd_same, same_new hD _ _ l2, (w2.same (same_new hD)).mono (by omega)⟩ (fun i H3 hi' hP => ?_) (fun H3 hP => ?_)⟩
      · obtain ⟨ds, hlen, hds, hDs, hLs, w3⟩ := hP
        have pD : D ≠ p := fun e => by
          obtain ⟨_, _, _, z, _⟩ := w2
          rw [← e, hD] at z
          cases z
        have pDL : L ≠ D := ne_of_none l2 hD
        refine ⟨rfl, _, rfl, p, 1 + i, 3, rfl, w3, by omega, by decide, by decide, fun r' H4 r0' r1' b4 w4 => ?_⟩
        refine ⟨_, _, rfl, rfl, _, b4 _ _ pD hDs, small1000 (by rw [List.length_map]; omega), ds ++ [r' - 1], (by rw [List.length_append, hlen]; rfl), fun d hd => ?_, ?_, ?_, ?_⟩
        · rcases List.mem_append.mp hd with hd | hd
          · exact hds d hd
          · rw [List.mem_singleton.mp hd]
            omega
        · rw [upd_same, List.map_append]
          rfl
        · rw [upd_ne pDL]
          exact b4 _ _ pL hLs
        · have w5 : WellAt (upd H4 D (.lst (ds.map V.int ++ [V.int (r' - 1)]))) p (1 + i + 1) := by
            obtain ⟨x, y, z, e, h1, h2, h3, h4⟩ := w4
            exact ⟨x, y, z, by rw [upd_ne (Ne.symm pD)]; exact e, h1, h2, h3, h4⟩
          exact w5.mono (by omega)
      · obtain ⟨ds, hlen, hds, hDs, hLs, w3⟩ := hP
        have hb := sumD_bound ds hds
        have hb2 : (sumD ds).natAbs ≤ 2 ^ 132 := Nat.le_trans (Nat.le_of_lt hb) (Nat.pow_le_pow_right (by decide) (by omega))
        have hb3 : (2 : Nat) ^ 132 ≤ 2 ^ 200 := by decide
        have nl := naf_len 132 _ hb2
        refine ⟨_, rfl, D, ds, rfl, SqL.of hDs, hds, ?_⟩
        have wl := wt_least ds hds
        generalize hnn : sumD ds = n at *
        refine ⟨_, rfl, n, rfl, Nat.le_trans hb2 hb3, fun f H4 hf s4 hF => ?_⟩
        refine ⟨_, rfl, _, rfl, f, n, rfl, hF, fun H5 s5 => ⟨_, rfl, iteF ?_⟩⟩
        refine ⟨_, rfl, f, naf n, rfl, SqL.of (s5 _ _ hF), by omega, fun H6 s6 => ?_⟩
        refine ⟨_, rfl, D, ds, rfl, SqL.of (s6 _ _ (s5 _ _ (s4 _ _ hDs))), by omega, fun H7 s7 => ?_⟩
        refine ⟨_, _, rfl, rfl, _, rfl, ite2 (fun c => ?_) (fun _ => ?_)⟩
        · have := toB c
          exact absurd wl (by unfold wt; omega)
        have l7 := s7 _ _ (s6 _ _ (s5 _ _ (s4 _ _ hLs)))
        have f7 := s7 _ _ (s6 _ _ (s5 _ _ hF))
        refine ⟨_, rfl, _, _, rfl, rfl, 0 - n, rfl, (by rw [Int.zero_sub, Int.natAbs_neg]; exact Nat.le_trans hb2 hb3), fun f2 H8 hf2 s8 hF2 => ?_⟩
        have f8 := s8 _ _ f7
        refine ⟨_, rfl, f, rfl, ⟨_, SqL.of f8⟩, fun D2 hD2 => lc_list (K := K) (a := f) (xs := (naf n).map V.int) (fun i H' => Same H8 H' ∧ H' D2 = some (.lst (((naf n).take i).map fun d => V.int (0 - d)))) ⟨same_new hD2, upd_same⟩ (fun i H' _ hP => SqL.of (hP.1 _ _ f8)) (fun i x H' hx hP => ?_) (fun H9 hP => ?_)⟩
        · obtain ⟨s9, hacc⟩ := hP
          rw [List.getElem?_map] at hx
          obtain ⟨d, hi2, rfl⟩ := Option.map_eq_some_iff.mp hx
          have hlt := (List.getElem?_eq_some_iff.mp hi2).1
          refine ⟨rfl, _, rfl, _, _, rfl, rfl, _, hacc, small1000 ?_, fun b o eb => ?_, ?_⟩
          · rw [List.length_map, List.length_take]
            omega
          · rw [upd_ne (ne_of_none eb hD2)]
            exact s9 _ _ eb
          · rw [upd_same, List.take_succ, hi2, List.map_append]
            rfl
        · obtain ⟨s9, hacc⟩ := hP
          rw [List.length_map, List.take_length] at hacc
          have e2 : (naf n).map (fun d => V.int (0 - d)) = (naf (0 - n)).map V.int := by
            rw [naf_neg, List.map_map]
            rfl
          rw [e2] at hacc
          refine ⟨.list ((naf (0 - n)).map PyData.int), .list ((naf (0 - n)).map PyData.int), .lst (SqL.of (s9 _ _ hF2)) (dp_ints _), .lst (SqL.of hacc) (dp_ints _), PySem.W.shaped_ints _, PySem.W.shaped_ints _, _, rfl, ?_⟩
          rw [eqv_ints]
          refine iteF ?_
          have l9 := s9 _ _ (s8 _ _ l7)
          refine ⟨_, rfl, _, _, rfl, rfl, ⟨by decide, by decide, by decide⟩, _, _, rfl, rfl, .inl ⟨by decide, by decide⟩, _, _, rfl, rfl, _, _, rfl, rfl, (by show (0 : Int) < 2 * 10 ^ 40 - 1; decide), _, _, rfl, rfl, _, _, rfl, rfl, ⟨by decide, by decide, by decide⟩, _, _, rfl, rfl, ?_⟩
          have m0 : 0 ≤ c % (2 * 10 ^ (40 : Int).toNat - 1) := Int.emod_nonneg _ (by decide)
          have m1 : c % (2 * 10 ^ (40 : Int).toNat - 1) < 2 * 10 ^ (40 : Int).toNat - 1 := Int.emod_lt_of_pos _ (by decide)
          have hm : (c % (2 * 10 ^ (40 : Int).toNat - 1) + 1 - 10 ^ (40 : Int).toNat).natAbs ≤ 2 ^ 200 := by
            have h1 : (2 : Int) * 10 ^ (40 : Int).toNat - 1 = 19999999999999999999999999999999999999999 := by decide
            have h2 : (10 : Int) ^ (40 : Int).toNat = 10000000000000000000000000000000000000000 := by decide
            have h3 : (2 : Nat) ^ 200 = 1606938044258990275541962092341162602522202993782792835301376 := by decide
            rw [h1] at m0 m1 ⊢
            rw [h2, h3]
            omega
          refine ⟨_, rfl, _, rfl, hm, fun f3 Ha hf3 sa hF3 => ?_⟩
          refine ⟨_, rfl, f3, _, rfl, hF3, fun Hb sb => ⟨_, rfl, iteF ⟨sb _ _ (sa _ _ l9), _, _, _, _, _, rfl⟩⟩⟩
    · exact q _
end
end E1

namespace E1
open PySem PySem.Spec PyProof.Rows L2
theorem all_mk {l : PySem.W.OpenLaw} {w : World} {K : PySem.W.Frag} {h : Heap} {mg : Str → Option Value} {fa f_spelled f__law_well f__law_draw f__law_sum_of f__law_many f__law_right f_law : Addr} (X : K.In h) (G : h.Ns mainGlobals mg) (hfa : mg "law" = some (.ref fa))
    {od_spelled an_spelled : Option Addr} {sl_spelled : Array (Option Value)} {oc_spelled kV_spelled dc_spelled pm_spelled cd_spelled ct_spelled : Value}
    (a_spelled : PySem.W.nsIn K mainGlobals "spelled" = some (some (.ref f_spelled)))
    (l_spelled : K.lookup f_spelled = some ⟨oc_spelled, od_spelled, .func (PySem.W.fnOf "spelled" "spelled" (defArgs s_spelled) (defBody s_spelled) (defScope s_spelled) .none kV_spelled dc_spelled pm_spelled an_spelled cd_spelled ct_spelled), sl_spelled⟩)
    (c_spelled : PySem.W.codeIn K cd_spelled "spelled" = true)
    (k_spelled : PySem.W.keepIn K (.ref f_spelled) = true)
    {od__law_well an__law_well : Option Addr} {sl__law_well : Array (Option Value)} {oc__law_well kV__law_well dc__law_well pm__law_well cd__law_well ct__law_well : Value}
    (a__law_well : PySem.W.nsIn K mainGlobals "_law_well" = some (some (.ref f__law_well)))
    (l__law_well : K.lookup f__law_well = some ⟨oc__law_well, od__law_well, .func (PySem.W.fnOf "_law_well" "_law_well" (defArgs s__law_well) (defBody s__law_well) (defScope s__law_well) .none kV__law_well dc__law_well pm__law_well an__law_well cd__law_well ct__law_well), sl__law_well⟩)
    (c__law_well : PySem.W.codeIn K cd__law_well "_law_well" = true)
    (k__law_well : PySem.W.keepIn K (.ref f__law_well) = true)
    {od__law_draw an__law_draw : Option Addr} {sl__law_draw : Array (Option Value)} {oc__law_draw kV__law_draw dc__law_draw pm__law_draw cd__law_draw ct__law_draw : Value}
    (a__law_draw : PySem.W.nsIn K mainGlobals "_law_draw" = some (some (.ref f__law_draw)))
    (l__law_draw : K.lookup f__law_draw = some ⟨oc__law_draw, od__law_draw, .func (PySem.W.fnOf "_law_draw" "_law_draw" (defArgs s__law_draw) (defBody s__law_draw) (defScope s__law_draw) .none kV__law_draw dc__law_draw pm__law_draw an__law_draw cd__law_draw ct__law_draw), sl__law_draw⟩)
    (c__law_draw : PySem.W.codeIn K cd__law_draw "_law_draw" = true)
    (k__law_draw : PySem.W.keepIn K (.ref f__law_draw) = true)
    {od__law_sum_of an__law_sum_of : Option Addr} {sl__law_sum_of : Array (Option Value)} {oc__law_sum_of kV__law_sum_of dc__law_sum_of pm__law_sum_of cd__law_sum_of ct__law_sum_of : Value}
    (a__law_sum_of : PySem.W.nsIn K mainGlobals "_law_sum_of" = some (some (.ref f__law_sum_of)))
    (l__law_sum_of : K.lookup f__law_sum_of = some ⟨oc__law_sum_of, od__law_sum_of, .func (PySem.W.fnOf "_law_sum_of" "_law_sum_of" (defArgs s__law_sum_of) (defBody s__law_sum_of) (defScope s__law_sum_of) .none kV__law_sum_of dc__law_sum_of pm__law_sum_of an__law_sum_of cd__law_sum_of ct__law_sum_of), sl__law_sum_of⟩)
    (c__law_sum_of : PySem.W.codeIn K cd__law_sum_of "_law_sum_of" = true)
    (k__law_sum_of : PySem.W.keepIn K (.ref f__law_sum_of) = true)
    {od__law_many an__law_many : Option Addr} {sl__law_many : Array (Option Value)} {oc__law_many kV__law_many dc__law_many pm__law_many cd__law_many ct__law_many : Value}
    (a__law_many : PySem.W.nsIn K mainGlobals "_law_many" = some (some (.ref f__law_many)))
    (l__law_many : K.lookup f__law_many = some ⟨oc__law_many, od__law_many, .func (PySem.W.fnOf "_law_many" "_law_many" (defArgs s__law_many) (defBody s__law_many) (defScope s__law_many) .none kV__law_many dc__law_many pm__law_many an__law_many cd__law_many ct__law_many), sl__law_many⟩)
    (c__law_many : PySem.W.codeIn K cd__law_many "_law_many" = true)
    (k__law_many : PySem.W.keepIn K (.ref f__law_many) = true)
    {od__law_right an__law_right : Option Addr} {sl__law_right : Array (Option Value)} {oc__law_right kV__law_right dc__law_right pm__law_right cd__law_right ct__law_right : Value}
    (a__law_right : PySem.W.nsIn K mainGlobals "_law_right" = some (some (.ref f__law_right)))
    (l__law_right : K.lookup f__law_right = some ⟨oc__law_right, od__law_right, .func (PySem.W.fnOf "_law_right" "_law_right" (defArgs s__law_right) (defBody s__law_right) (defScope s__law_right) .none kV__law_right dc__law_right pm__law_right an__law_right cd__law_right ct__law_right), sl__law_right⟩)
    (c__law_right : PySem.W.codeIn K cd__law_right "_law_right" = true)
    (k__law_right : PySem.W.keepIn K (.ref f__law_right) = true)
    {od_law an_law : Option Addr} {sl_law : Array (Option Value)} {oc_law kV_law dc_law pm_law cd_law ct_law : Value}
    (a_law : PySem.W.nsIn K mainGlobals "law" = some (some (.ref f_law)))
    (l_law : K.lookup f_law = some ⟨oc_law, od_law, .func (PySem.W.fnOf "law" "law" (defArgs s_law) (defBody s_law) (defScope s_law) .none kV_law dc_law pm_law an_law cd_law ct_law), sl_law⟩)
    (c_law : PySem.W.codeIn K cd_law "law" = true)
    (k_law : PySem.W.keepIn K (.ref f_law) = true)
    (z_int : PySem.W.nsIn K mainGlobals "int" = some none)
    (z_len : PySem.W.nsIn K mainGlobals "len" = some none)
    (z_isinstance : PySem.W.nsIn K mainGlobals "isinstance" = some none)
    (z_list : PySem.W.nsIn K mainGlobals "list" = some none)
    (z_enumerate : PySem.W.nsIn K mainGlobals "enumerate" = some none)
    (z_bool : PySem.W.nsIn K mainGlobals "bool" = some none)
    (z_range : PySem.W.nsIn K mainGlobals "range" = some none) :
    ∃ fd : FuncData, (∀ (s : Shared) (v : Value), BindsTo s fd ⟨[v], []⟩ [("_law_script", v)]) ∧ ∀ base : Heap, K.In base → base.Ns mainGlobals mg → FnOk l.prog w K mg base CX0 3 fa fd ["_law_script"] (spLaw K) := by
  have F_spelled := fun_mk (st := s_spelled) l_spelled c_spelled k_spelled
  have b_spelled := F_spelled.binds (ps := ["number"]) fun _ _ _ _ _ _ us hl => match us, hl with | [_], _ => rfl
  have F__law_well := fun_mk (st := s__law_well) l__law_well c__law_well k__law_well
  have b__law_well := F__law_well.binds (ps := ["_law_cell"]) fun _ _ _ _ _ _ us hl => match us, hl with | [_], _ => rfl
  have F__law_draw := fun_mk (st := s__law_draw) l__law_draw c__law_draw k__law_draw
  have b__law_draw := F__law_draw.binds (ps := ["_law_well_here", "_law_many_here"]) fun _ _ _ _ _ _ us hl => match us, hl with | [_, _], _ => rfl
  have F__law_sum_of := fun_mk (st := s__law_sum_of) l__law_sum_of c__law_sum_of k__law_sum_of
  have b__law_sum_of := F__law_sum_of.binds (ps := ["_law_digits"]) fun _ _ _ _ _ _ us hl => match us, hl with | [_], _ => rfl
  have F__law_many := fun_mk (st := s__law_many) l__law_many c__law_many k__law_many
  have b__law_many := F__law_many.binds (ps := ["_law_digits"]) fun _ _ _ _ _ _ us hl => match us, hl with | [_], _ => rfl
  have F__law_right := fun_mk (st := s__law_right) l__law_right c__law_right k__law_right
  have b__law_right := F__law_right.binds (ps := ["_law_found", "_law_number"]) fun _ _ _ _ _ _ us hl => match us, hl with | [_, _], _ => rfl
  have F_law := fun_mk (st := s_law) l_law c_law k_law
  have b_law := F_law.binds (ps := ["_law_script"]) fun _ _ _ _ _ _ us hl => match us, hl with | [_], _ => rfl
  have z : Zs mg := ⟨PySem.W.mg_none_of X G z_int, PySem.W.mg_none_of X G z_len, PySem.W.mg_none_of X G z_isinstance, PySem.W.mg_none_of X G z_list, PySem.W.mg_none_of X G z_enumerate, PySem.W.mg_none_of X G z_bool, PySem.W.mg_none_of X G z_range⟩
  have e := hfa.symm.trans (PySem.W.mg_of X G a_law)
  cases e
  refine ⟨PySem.W.fnOf "law" "law" (defArgs s_law) (defBody s_law) (defScope s_law) .none kV_law dc_law pm_law an_law cd_law ct_law, fun s v => .of_eq rfl, fun base _ _ => ?_⟩
  have c_spelled : Cal l.prog w K mg base 1 "spelled" ["number"] _ := ⟨f_spelled, _, PySem.W.mg_of X G a_spelled, k_spelled, b_spelled, ok_spelled (k := 0) F_spelled⟩
  have c__law_well : Cal l.prog w K mg base 1 "_law_well" ["_law_cell"] _ := ⟨f__law_well, _, PySem.W.mg_of X G a__law_well, k__law_well, b__law_well, ok_well (k := 0) F__law_well z.int⟩
  have c__law_draw : Cal l.prog w K mg base 1 "_law_draw" ["_law_well_here", "_law_many_here"] _ := ⟨f__law_draw, _, PySem.W.mg_of X G a__law_draw, k__law_draw, b__law_draw, ok_draw (k := 0) F__law_draw⟩
  have c__law_sum_of : Cal l.prog w K mg base 1 "_law_sum_of" ["_law_digits"] _ := ⟨f__law_sum_of, _, PySem.W.mg_of X G a__law_sum_of, k__law_sum_of, b__law_sum_of, ok__law_sum_of (k := 0) F__law_sum_of⟩
  have c__law_many : Cal l.prog w K mg base 1 "_law_many" ["_law_digits"] _ := ⟨f__law_many, _, PySem.W.mg_of X G a__law_many, k__law_many, b__law_many, ok__law_many (k := 0) F__law_many z⟩
  have c__law_right : Cal l.prog w K mg base 2 "_law_right" ["_law_found", "_law_number"] _ := ⟨f__law_right, _, PySem.W.mg_of X G a__law_right, k__law_right, b__law_right, ok__law_right F__law_right z c__law_sum_of⟩
  exact ok_law F_law z c__law_well c__law_draw c_spelled c__law_sum_of c__law_many c__law_right

end E1

open PySem PySem.W PyProof.Rows
set_option maxRecDepth 100000 in
set_option maxHeartbeats 0 in
theorem PySem.Challenge.cw_echobound_k37_a_number_spelled_holds : PySem.Challenge.rw_echobound_k37_a_number_spelled.Holds := by
  w_on; o_law; k_head; (case hw => w_witness2)
  k_fill
  refine L2.walk_of (l := PySem.Challenge.rw_echobound_k37_a_number_spelled) (n := 63) (k := 3) (x := "_law_script") (CX := fun _ => L2.CX0) (sp := fun w => E1.spLaw _) rfl (by decide) rfl ⟨rfl, by decide, by decide⟩ (fun w h Y => PySem.W.kIn_of Y) ?F (fun _ _ a ns hl _ hS => ⟨a, ns, rfl, hS, hl, fun _ => rfl⟩) (fun _ _ _ _ _ h => h)
  case F =>
    intro w mg fa h KX G hmg
    refine' E1.all_mk KX G hmg ?a_spelled ?l_spelled ?c_spelled ?k_spelled ?a__law_well ?l__law_well ?c__law_well ?k__law_well ?a__law_draw ?l__law_draw ?c__law_draw ?k__law_draw ?a__law_sum_of ?l__law_sum_of ?c__law_sum_of ?k__law_sum_of ?a__law_many ?l__law_many ?c__law_many ?k__law_many ?a__law_right ?l__law_right ?c__law_right ?k__law_right ?a_law ?l_law ?c_law ?k_law ?z_int ?z_len ?z_isinstance ?z_list ?z_enumerate ?z_bool ?z_range
    (case a_spelled => k_is)
    (case l_spelled => k_is)
    (case c_spelled => k_is)
    (case k_spelled => k_is)
    (case a__law_well => k_is)
    (case l__law_well => k_is)
    (case c__law_well => k_is)
    (case k__law_well => k_is)
    (case a__law_draw => k_is)
    (case l__law_draw => k_is)
    (case c__law_draw => k_is)
    (case k__law_draw => k_is)
    (case a__law_sum_of => k_is)
    (case l__law_sum_of => k_is)
    (case c__law_sum_of => k_is)
    (case k__law_sum_of => k_is)
    (case a__law_many => k_is)
    (case l__law_many => k_is)
    (case c__law_many => k_is)
    (case k__law_many => k_is)
    (case a__law_right => k_is)
    (case l__law_right => k_is)
    (case c__law_right => k_is)
    (case k__law_right => k_is)
    (case a_law => k_is)
    (case l_law => k_is)
    (case c_law => k_is)
    (case k_law => k_is)
    (case z_int => k_is)
    (case z_len => k_is)
    (case z_isinstance => k_is)
    (case z_list => k_is)
    (case z_enumerate => k_is)
    (case z_bool => k_is)
    (case z_range => k_is)
