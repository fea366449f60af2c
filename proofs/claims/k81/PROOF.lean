import PyProof.Rows.All
import Wide.All
import OpenK.AllK
import Wide.FinOn
import HandS.Codes
import HandS.ForMost
import HandS.Wide
import HandS.Zip
import HandS.IsInst
import HandS.Defaults
import HandS.Style
import HandS.Walk
import HandS.More
import OpenK.KEqL
import HandS.Flow
import HandS.TryOnly
import PySem.Challenge.RW_echobound_k81_how_far_sums_go
set_option Elab.async false
set_option linter.all false
set_option maxRecDepth 100000
set_option maxHeartbeats 4000000
namespace E1
open PySem PySem.Spec PyProof.Rows L2
/-! ### a def of the text that is called by its name -/
def Cal (P : Program) (w : World) (K : PySem.W.Frag) (mg : Str → Option Value) (base : Heap) (k : Nat) (x : Str) (ps : List Str) (sp : Sp) : Prop :=
  ∃ (f : Addr) (fd : FuncData), mg x = some (.ref f) ∧ PySem.W.keepIn K (.ref f) = true ∧ Binds K fd ps [] ∧ FnOk P w K mg base CX0 k f fd ps sp
theorem pe_cal {X : Cx} {k j : Nat} {x : Str} {ps : List Str} {sp : Sp} {e : Expr} {es : List Expr} {t : TA} {p pos : Pos} (c : Cal X.prog X.w X.K X.mg X.base k x ps sp) (hr : Room j X.A) (ha : PA X (e :: es) t) (hle : k ≤ j := by decide) (hg : Gl X x := by rfl)
    (hdb : (x == ("__debug__" : Str)) = false := by decide) (he : starEach (e :: es) X.env = (false, eval e X.env) :: starEach es X.env := by rfl) (hpl : (backTo pos (starEach es X.env)).any (·.1) = false := by rfl) :
    PE X (.Call (.Name x p) (e :: es) [] pos) (tCall sp [] E0 t) := by
  obtain ⟨f, fd, h1, h2, h3, h4⟩ := c
  exact pe_call h4 (hr.mono hle) hg h1 h2 h3 .nil pass0 ha hdb he hpl
/-! ### heaps -/
def SameBut (a : Addr) (H H' : Hp) : Prop := ∀ b o, b ≠ a → H b = some o → H' b = some o
theorem SameBut.refl (a : Addr) (H : Hp) : SameBut a H H := fun _ _ _ h => h
theorem SameBut.trans {a : Addr} {H H1 H2 : Hp} (x : SameBut a H H1) (y : SameBut a H1 H2) : SameBut a H H2 := fun b o n h => y b o n (x b o n h)
theorem SameBut.of {a : Addr} {H H' : Hp} (s : Same H H') : SameBut a H H' := fun b o _ h => s b o h
theorem SameBut.upd {a : Addr} {H : Hp} {o : HO} : SameBut a H (upd H a o) := fun b _ n h => by
  rw [upd_ne n]
  exact h
theorem same_new {H : Hp} {p : Addr} {o : HO} (h : H p = none) : Same H (upd H p o) := fun b x e => by
  rw [upd_ne (ne_of_none e h)]
  exact e
theorem Same.tup {K : PySem.W.Frag} {H H' : Hp} {a : Addr} {xs : List V} (e : Same H H') (h : SqT K H a xs) : SqT K H' a xs := by
  rcases h with (h | ⟨o, h⟩) | h
  · exact .inl (.inl (e _ _ h))
  · exact .inl (.inr ⟨o, e _ _ h⟩)
  · exact .inr h
theorem a0 {α : Type} {x : α} {l : List α} : atI (x :: l) 0 = some x := atI_nat (j := 0) rfl
theorem a1 {α : Type} {x y : α} {l : List α} : atI (x :: y :: l) 1 = some y := atI_nat (j := 1) rfl
theorem a2 {α : Type} {x y z : α} {l : List α} : atI (x :: y :: z :: l) 2 = some z := atI_nat (j := 2) rfl
theorem toB {p : Prop} [Decidable p] (h : decide p = true) : p := of_decide_eq_true h
theorem toNB {p : Prop} [Decidable p] (h : ¬ decide p = true) : ¬ p := fun z => h (decide_eq_true z)
/-- a well: the digits left, a number that is mixed, how many were mixed (at most c) -/
def WellAt (H : Hp) (a : Addr) (c : Int) : Prop := ∃ x y z : Int, H a = some (.lst [.int x, .int y, .int z]) ∧ 0 ≤ y ∧ y < 2147483647 ∧ 0 ≤ z ∧ z ≤ c
theorem WellAt.mono {H : Hp} {a : Addr} {c d : Int} (h : WellAt H a c) (l : c ≤ d) : WellAt H a d := by
  obtain ⟨x, y, z, e, h1, h2, h3, h4⟩ := h
  exact ⟨x, y, z, e, h1, h2, h3, by omega⟩
theorem WellAt.same {H H' : Hp} {a : Addr} {c : Int} (h : WellAt H a c) (s : Same H H') : WellAt H' a c := by
  obtain ⟨x, y, z, e, h1, h2, h3, h4⟩ := h
  exact ⟨x, y, z, s _ _ e, h1, h2, h3, h4⟩
theorem WellAt.but {H H' : Hp} {a b : Addr} {c : Int} (h : WellAt H a c) (s : SameBut b H H') (n : a ≠ b) : WellAt H' a c := by
  obtain ⟨x, y, z, e, h1, h2, h3, h4⟩ := h
  exact ⟨x, y, z, s _ _ n e, h1, h2, h3, h4⟩
/-! ### promises of the law's helpers -/
def spCell (K : PySem.W.Frag) : Sp := fun vs H Q _ => ∃ (a : Addr) (ns : List Int) (k : Nat), vs = [.ref a, .int k] ∧ SqL K H a (ns.map V.int) ∧ Q (.int (ns.getD k 0)) H
def spWell : Sp := fun vs H Q _ => ∃ c : Int, vs = [.int c] ∧ ∀ p : Addr, H p = none → ∀ H', Same H H' → WellAt H' p 0 → Q (.ref p) H'
/-- a number from 0 to below m; the well has at most one more -/
def spDraw : Sp := fun vs H Q _ => ∃ (a : Addr) (c m : Int), vs = [.ref a, .int m] ∧ WellAt H a c ∧ c ≤ 1000000000 ∧ 0 < m ∧ m.natAbs < 2 ^ 9000 ∧
  ∀ (r : Int) (H' : Hp), 0 ≤ r → r < m → SameBut a H H' → (∀ b, H b = none → H' b = none) → WellAt H' a (c + 1) → Q (.int r) H'
def topS (i : Nat) : Stmt := PySem.Challenge.pw_echobound_k81_how_far_sums_go.main.body.getD i (.Pass ⟨0, 0, 0, 0⟩)
abbrev s_is_whole : Stmt := topS 4
abbrev s_is_numbers : Stmt := topS 7
abbrev s_dot : Stmt := topS 9
abbrev s_check_taps : Stmt := topS 12
abbrev s_extremes : Stmt := topS 13
abbrev s__law_cell_at : Stmt := topS 15
abbrev s__law_well : Stmt := topS 16
abbrev s__law_draw : Stmt := topS 17
abbrev s__law_same : Stmt := topS 18
abbrev s__law_tap : Stmt := topS 19
abbrev s__law_sum : Stmt := topS 20
abbrev s__law_end : Stmt := topS 21
abbrev s_law : Stmt := topS 22
section
variable {P : Program} {w : World} {K : PySem.W.Frag} {mg : Str → Option Value} {base : Heap}
end
end E1

namespace E1
open PySem PySem.Spec PyProof.Rows L2

def CalD (P : Program) (w : World) (K : PySem.W.Frag) (mg : Str → Option Value) (base : Heap) (k : Nat) (x : Str) (ps : List Str) (dvs : List V) (sp : Sp) : Prop :=
  ∃ (f : Addr) (fd : FuncData) (ds : List Value), mg x = some (.ref f) ∧ PySem.W.keepIn K (.ref f) = true ∧ Vals dvs ds ∧ Binds K fd ps ds ∧ FnOk P w K mg base CX0 k f fd ps sp
theorem pe_cald {X : Cx} {k j : Nat} {x : Str} {ps : List Str} {dvs : List V} {sp : Sp} {e : Expr} {es : List Expr} {t : TA} {p pos : Pos} (c : CalD X.prog X.w X.K X.mg X.base k x ps dvs sp) (hr : Room j X.A) (ha : PA X (e :: es) t) (hle : k ≤ j := by decide) (hg : Gl X x := by rfl)
    (hdb : (x == ("__debug__" : Str)) = false := by decide) (he : starEach (e :: es) X.env = (false, eval e X.env) :: starEach es X.env := by rfl) (hpl : (backTo pos (starEach es X.env)).any (·.1) = false := by rfl) :
    PE X (.Call (.Name x p) (e :: es) [] pos) (tCall sp dvs E0 t) := by
  obtain ⟨f, fd, ds, h1, h2, hd, h3, h4⟩ := c
  exact pe_call h4 (hr.mono hle) hg h1 h2 h3 hd pass0 ha hdb he hpl
def CalK (P : Program) (w : World) (K : PySem.W.Frag) (mg : Str → Option Value) (base : Heap) (k : Nat) (x : Str) (ps : List Str) (n : Nat) (ks : List Str) (gV : List V → List V → List V) (sp : Sp) : Prop :=
  ∃ (f : Addr) (fd : FuncData) (g : List Value → List Value → List Value), mg x = some (.ref f) ∧ PySem.W.keepIn K (.ref f) = true ∧ KBn K fd ps n ks g gV ∧ FnOk P w K mg base CX0 k f fd ps sp
theorem pe_calk {X : Cx} {k j n : Nat} {x : Str} {ps ks : List Str} {gV : List V → List V → List V} {sp : Sp} {e : Expr} {es : List Expr} {kws : List Keyword} {t tk : TA} {p pos : Pos} (c : CalK X.prog X.w X.K X.mg X.base k x ps n ks gV sp) (hr : Room j X.A)
    (ha : PA X (e :: es) t) (hkw : PK X kws tk) (hle : k ≤ j := by decide) (hg : Gl X x := by rfl) (hall : (backToKw pos (keywordEach kws X.env)).all (·.1.isSome) = true := by rfl) (hks : (backToKw pos (keywordEach kws X.env)).filterMap (·.1) = ks := by rfl)
    (hdb : (x == ("__debug__" : Str)) = false := by decide) (he : starEach (e :: es) X.env = (false, eval e X.env) :: starEach es X.env := by rfl)
    (hpl : ((backTo pos (starEach (e :: es) X.env)).any (·.1) || (backToKw pos (keywordEach kws X.env)).any (·.1.isNone)) = false := by rfl) :
    PE X (.Call (.Name x p) (e :: es) kws pos) (tCallN n ks.length sp gV E0 t tk) := by
  obtain ⟨f, fd, g, h1, h2, h3, h4⟩ := c
  exact pe_callN h4 (hr.mono hle) hg h1 h2 h3 pass0 ha hkw hall hks hdb he hpl
theorem pe_calk0 {X : Cx} {k j : Nat} {x : Str} {ps ks : List Str} {gV : List V → List V → List V} {sp : Sp} {kws : List Keyword} {tk : TA} {p pos : Pos} (c : CalK X.prog X.w X.K X.mg X.base k x ps 0 ks gV sp) (hr : Room j X.A)
    (hkw : PK X kws tk) (hle : k ≤ j := by decide) (hg : Gl X x := by rfl) (hall : (backToKw pos (keywordEach kws X.env)).all (·.1.isSome) = true := by rfl) (hks : (backToKw pos (keywordEach kws X.env)).filterMap (·.1) = ks := by rfl)
    (hdb : (x == ("__debug__" : Str)) = false := by decide)
    (hpl : ((backTo pos (starEach [] X.env)).any (·.1) || (backToKw pos (keywordEach kws X.env)).any (·.1.isNone)) = false := by rfl) :
    PE X (.Call (.Name x p) [] kws pos) (tCallN 0 ks.length sp gV E0 tNil tk) := by
  obtain ⟨f, fd, g, h1, h2, h3, h4⟩ := c
  refine ⟨fun pins s σ H Q I h => ?_⟩
  refine wpAny_Call_Name_kw (ld_glob I hg h1 ?_ hdb)
  refine PySem.W.callWith_KW0 (h₀ := X.base) I.ok.mod.kin h2 hall (thn (hkw.run pos pins s σ H _ I h) fun ws s2 ⟨zs, H2, I2, rz, l1, l2, q2⟩ => ⟨I2.kIn, ?_⟩) hpl
  rw [hks]
  exact run_fnN (vs := []) (us := []) h4 (hr.mono hle) h3 pass0 I2 .nil rz l1 l2 q2
/-- a class handed to isinstance -/
theorem isiB {K : PySem.W.Frag} {H : Hp} {x : V} {a b : String} {r : Bool} {Q : VK} (ty : TyX K H x (.type a)) (k : kitB a b = some r) (q : Q (.bl r) H) : rIsi K [x, .ty b] H Q :=
  ⟨x, .ty b, .type a, .type b, r, rfl, .ty _, ty, kit_ty k, q⟩
/-- whether a thing is a whole number -/
def WholeIs (K : PySem.W.Frag) (H : Hp) (x : V) (b : Bool) : Prop := (∃ i, x = .int i ∧ b = true) ∨ (∃ c, x = .bl c ∧ b = false) ∨ (b = false ∧ ∃ t : String, TyX K H x (.type t) ∧ kitB t "int" = some false)
theorem WholeIs.int {K : PySem.W.Frag} {H : Hp} (i : Int) : WholeIs K H (.int i) true := .inl ⟨i, rfl, rfl⟩
def spWhole (K : PySem.W.Frag) : Sp := fun vs H Q _ => ∃ (x : V) (b : Bool), vs = [x] ∧ WholeIs K H x b ∧ Q (.bl b) H
/-! ### the mathematics of fractions in lowest terms -/
def gI (t b : Int) : Int := (Int.gcd t b : Nat)
def lowT (t b : Int) : Int := (if b < 0 then -t else t) / gI t b
def lowB (t b : Int) : Int := (if b < 0 then -b else b) / gI t b
theorem gI_neg (t b : Int) : gI (-t) (-b) = gI t b := by
  unfold gI
  rw [Int.neg_gcd, Int.gcd_neg]
theorem gI_pos {t b : Int} (h : b ≠ 0) : 0 < gI t b := by
  have : 0 < Int.gcd t b := Int.gcd_pos_of_ne_zero_right t h
  unfold gI
  omega
theorem gI_le {t b : Int} (h : b ≠ 0) : (gI t b).natAbs ≤ b.natAbs := by
  have d : Int.gcd t b ∣ b.natAbs := Nat.gcd_dvd_right t.natAbs b.natAbs
  have := Nat.le_of_dvd (by omega) d
  unfold gI
  omega
def spShared : Sp := fun vs H Q _ => ∃ t b : Int, vs = [.int t, .int b] ∧ 0 ≤ b ∧ Q (.int (gI t b)) H
def spLow : Sp := fun vs H Q _ => ∃ t b : Int, vs = [.int t, .int b] ∧ b ≠ 0 ∧ b.natAbs < 2 ^ 4000 ∧ ∀ p, H p = none → Q (.ref p) (upd H p (.tup [.int (lowT t b), .int (lowB t b)]))
/-- two fractions at two places; the tops and bottoms told by f and d -/
def spTwo (K : PySem.W.Frag) (pre : Int → Int → Int → Int → Prop) (f d : Int → Int → Int → Int → Int) : Sp := fun vs H Q _ => ∃ (a c : Addr) (t u v x : Int), vs = [.ref a, .ref c] ∧ SqT K H a [.int t, .int u] ∧ SqT K H c [.int v, .int x] ∧
  pre t u v x ∧ 0 < u ∧ 0 < x ∧ t.natAbs < 2 ^ 1900 ∧ u.natAbs < 2 ^ 1900 ∧ v.natAbs < 2 ^ 1900 ∧ x.natAbs < 2 ^ 1900 ∧ ∀ p, H p = none → Q (.ref p) (upd H p (.tup [.int (lowT (f t u v x) (d t u v x)), .int (lowB (f t u v x) (d t u v x))]))
def spUnder (K : PySem.W.Frag) : Sp := fun vs H Q _ => ∃ (a c : Addr) (t u v x : Int), vs = [.ref a, .ref c] ∧ SqT K H a [.int t, .int u] ∧ SqT K H c [.int v, .int x] ∧
  t.natAbs < 2 ^ 1900 ∧ u.natAbs < 2 ^ 1900 ∧ v.natAbs < 2 ^ 1900 ∧ x.natAbs < 2 ^ 1900 ∧ Q (.bl (decide (t * x < v * u))) H
def absI (t : Int) : Int := if t < 0 then -t else t
def spSize (K : PySem.W.Frag) : Sp := fun vs H Q _ => ∃ (a : Addr) (t u : Int), vs = [.ref a] ∧ SqT K H a [.int t, .int u] ∧ ∀ p, H p = none → Q (.ref p) (upd H p (.tup [.int (absI t), .int u]))
def twoT (m : Int) : Int := if m < 0 then 1 else 2 ^ m.toNat
def twoB (m : Int) : Int := if m < 0 then 2 ^ (-m).toNat else 1
def spTwoTo : Sp := fun vs H Q _ => ∃ m : Int, vs = [.int m] ∧ -400 ≤ m ∧ m ≤ 400 ∧ ∀ p, H p = none → Q (.ref p) (upd H p (.tup [.int (twoT m), .int (twoB m)]))
def spIsFrac : Sp := fun vs H Q _ => ∃ (a : Addr) (t u : Int), vs = [.ref a] ∧ H a = some (.tup [.int t, .int u]) ∧ 1 ≤ u ∧ Q (.bl (decide (gI t u = 1))) H
theorem up {x : Nat} {a b : Nat} (h : x < 2 ^ a) (l : a ≤ b) : x < 2 ^ b := Nat.lt_of_lt_of_le h (Nat.pow_le_pow_right (by decide) l)
theorem iteN {c A B : Prop} [Decidable c] (h1 : ¬ c → A) (h2 : c → B) : if (!decide c) = true then A else B := by
  by_cases h : c
  · rw [decide_eq_true h]
    exact iteF (h2 h)
  · rw [decide_eq_false h]
    exact iteT (h1 h)
theorem Same.free {H H' : Hp} {p : Addr} (s : Same H H') (h : H' p = none) : H p = none := by
  cases e : H p with
  | none => rfl
  | some o =>
    rw [s _ _ e] at h
    cases h
structure Zs (mg : Str → Option Value) : Prop where
  isinstance : mg "isinstance" = none
  int : mg "int" = none
  bool : mg "bool" = none
  abs : mg "abs" = none
  list : mg "list" = none
  len : mg "len" = none
  all : mg "all" = none
  sum : mg "sum" = none
  zip : mg "zip" = none
  tuple : mg "tuple" = none
  str : mg "str" = none
  enumerate : mg "enumerate" = none
  range : mg "range" = none
  sorted : mg "sorted" = none

theorem kit2 {K : PySem.W.Frag} {t a b : String} {r1 r2 : Bool} (h1 : kitB t a = some r1) (h2 : kitB t b = some r2) : PySem.W.kitAny K (.type t) [.type a, .type b] = some (r1 || r2) := by
  refine kitAny_cons (kit_ty h1) (fun e => ?_) (fun e => ?_)
  · subst e
    refine kitAny_cons (kit_ty h2) (fun e => ?_) (fun e => ?_)
    · subst e
      rfl
    · subst e
      rfl
  · subst e
    rfl
/-- a thing that is no list and no tuple -/
inductive Flat : V → Prop where
  | int (i : Int) : Flat (.int i)
  | bl (b : Bool) : Flat (.bl b)
  | str (s : Str) : Flat (.str s)
  | non : Flat .non
/-- alike at a depth below n -/
def Al (H : Hp) : Nat → V → V → Prop
  | 0, _, _ => False
  | n + 1, x, y => (x = y ∧ Flat x) ∨ ∃ a c xs ys, x = .ref a ∧ y = .ref c ∧ xs.length = ys.length ∧ xs.length ≤ 1000 ∧ (∀ (i : Nat) u v, xs[i]? = some u → ys[i]? = some v → Al H n u v) ∧
      ((H a = some (.tup xs) ∧ H c = some (.tup ys)) ∨ (H a = some (.lst xs) ∧ H c = some (.lst ys)))
theorem Al.same {H H' : Hp} (s : Same H H') : ∀ (n : Nat) (x y : V), Al H n x y → Al H' n x y
  | 0, _, _, h => h
  | n + 1, x, y, h => by
    rcases h with h | ⟨a, c, xs, ys, e1, e2, l1, l2, al, hk⟩
    · exact .inl h
    · refine .inr ⟨a, c, xs, ys, e1, e2, l1, l2, fun i u v h1 h2 => Al.same s n u v (al i u v h1 h2), ?_⟩
      rcases hk with ⟨h1, h2⟩ | ⟨h1, h2⟩
      · exact .inl ⟨s _ _ h1, s _ _ h2⟩
      · exact .inr ⟨s _ _ h1, s _ _ h2⟩
theorem Al.more {H : Hp} : ∀ (n : Nat) (x y : V), Al H n x y → Al H (n + 1) x y
  | 0, _, _, h => False.elim h
  | n + 1, x, y, h => by
    rcases h with h | ⟨a, c, xs, ys, e1, e2, l1, l2, al, hk⟩
    · exact .inl h
    · exact .inr ⟨a, c, xs, ys, e1, e2, l1, l2, fun i u v h1 h2 => Al.more n u v (al i u v h1 h2), hk⟩
theorem Al.int {H : Hp} {n : Nat} (i : Int) : Al H (n + 1) (.int i) (.int i) := .inl ⟨rfl, .int i⟩
theorem Al.ints {H : Hp} {n : Nat} {a c : Addr} {ns : List Int} (hl : ns.length ≤ 1000) (h1 : H a = some (.lst (ns.map V.int))) (h2 : H c = some (.lst (ns.map V.int))) : Al H (n + 2) (.ref a) (.ref c) := by
  refine .inr ⟨a, c, _, _, rfl, rfl, rfl, by rw [List.length_map]; exact hl, fun i u v e1 e2 => ?_, .inr ⟨h1, h2⟩⟩
  have e := Option.some.inj (e1.symm.trans e2)
  subst e
  rw [List.getElem?_map] at e1
  obtain ⟨m, _, rfl⟩ := Option.map_eq_some_iff.mp e1
  exact Al.int m
def spSameN (n : Nat) : Sp := fun vs H Q _ => ∃ x y, vs = [x, y] ∧ Al H n x y ∧ ∀ H', Same H H' → Q (.bl true) H'
/-- two tuples beside each other: as many turns as the shorter one has places -/
theorem walk_zipT {K : PySem.W.Frag} {a b : Addr} {xs ys : List V} {n : Nat} (hn : n = min xs.length ys.length) : Walk (RZ.ItzT K a b) n (fun H => SqT K H a xs ∧ SqT K H b ys) (YPair (fun i => xs[i]?) (fun i => ys[i]?)) := by
  have less : ∀ i, i < n → i < xs.length ∧ i < ys.length := fun i hi => ⟨by omega, by omega⟩
  constructor
  · intro i G hi both
    obtain ⟨hx, hy⟩ := less i hi
    exact ⟨xs, ys, xs[i]'hx, ys[i]'hy, both.1, both.2, List.getElem?_eq_getElem hx, List.getElem?_eq_getElem hy⟩
  · intro G both
    exact ⟨xs, ys, both.1, both.2, by omega⟩
  · intro i G v G' hi both told
    obtain ⟨T, l, r, e1, e2, e3, gl, gr⟩ := told
    exact ⟨T, l, r, e1, e2, e3, gl _ both.1, gr _ both.2⟩
theorem rep_map (n : Nat) : (List.replicate n true).map V.bl = List.replicate n (V.bl true) := by rw [List.map_replicate]
theorem rep_all (n : Nat) : (List.replicate n true).all id = true := by
  rw [List.all_eq_true]
  intro x h
  exact (List.mem_replicate.mp h).2
theorem rep_more (n : Nat) : List.replicate n (V.bl true) ++ [V.bl true] = List.replicate (n + 1) (V.bl true) := by rw [List.replicate_succ']

/-! ### sums of taps and rows -/
def dotI : List Int → List Int → Int
  | x :: xs, y :: ys => x * y + dotI xs ys
  | _, _ => 0
def prodI : List Int → List Int → List Int
  | x :: xs, y :: ys => x * y :: prodI xs ys
  | _, _ => []
theorem prodI_sum : ∀ xs ys : List Int, (prodI xs ys).sum = dotI xs ys
  | [], _ => by simp [prodI, dotI]
  | _ :: _, [] => by simp [prodI, dotI]
  | x :: xs, y :: ys => by
    rw [prodI, dotI, List.sum_cons, prodI_sum xs ys]
theorem prodI_snoc : ∀ (xs ys : List Int) (x y : Int), xs.length = ys.length → prodI (xs ++ [x]) (ys ++ [y]) = prodI xs ys ++ [x * y]
  | [], [], _, _, _ => rfl
  | a :: xs, b :: ys, x, y, h => by
    show a * b :: prodI (xs ++ [x]) (ys ++ [y]) = a * b :: (prodI xs ys ++ [x * y])
    rw [prodI_snoc xs ys x y (Nat.succ.inj h)]
theorem prodI_len : ∀ (xs ys : List Int), xs.length = ys.length → (prodI xs ys).length = xs.length
  | [], [], _ => rfl
  | a :: xs, b :: ys, h => by
    show (prodI xs ys).length + 1 = xs.length + 1
    rw [prodI_len xs ys (Nat.succ.inj h)]
theorem dotI_snoc (xs ys : List Int) (x y : Int) (h : xs.length = ys.length) : dotI (xs ++ [x]) (ys ++ [y]) = dotI xs ys + x * y := by
  rw [← prodI_sum, prodI_snoc xs ys x y h, List.sum_append, prodI_sum]
  simp
def pick (a b : Int) (f : Int → Bool) (xs : List Int) : List Int := xs.map fun t => if f t = true then b else a
theorem pick_len (a b : Int) (f : Int → Bool) (xs : List Int) : (pick a b f xs).length = xs.length := List.length_map _
theorem least_le (a b : Int) : ∀ (xs ys : List Int), xs.length = ys.length → (∀ y ∈ ys, a ≤ y ∧ y ≤ b) → dotI xs (pick a b (fun t => decide (t < 0)) xs) ≤ dotI xs ys
  | [], [], _, _ => Int.le_refl _
  | x :: xs, y :: ys, h, hy => by
    have i := least_le a b xs ys (Nat.succ.inj h) fun z hz => hy z (List.mem_cons_of_mem _ hz)
    have h0 := hy y List.mem_cons_self
    show x * (if decide (x < 0) = true then b else a) + dotI xs (pick a b (fun t => decide (t < 0)) xs) ≤ x * y + dotI xs ys
    have : x * (if decide (x < 0) = true then b else a) ≤ x * y := by
      by_cases c : x < 0
      · rw [if_pos (decide_eq_true c)]
        exact Int.mul_le_mul_of_nonpos_left (by omega) h0.2
      · rw [if_neg (by simpa using c)]
        exact Int.mul_le_mul_of_nonneg_left h0.1 (by omega)
    omega
theorem le_most (a b : Int) : ∀ (xs ys : List Int), xs.length = ys.length → (∀ y ∈ ys, a ≤ y ∧ y ≤ b) → dotI xs ys ≤ dotI xs (pick a b (fun t => decide (t > 0)) xs)
  | [], [], _, _ => Int.le_refl _
  | x :: xs, y :: ys, h, hy => by
    have i := le_most a b xs ys (Nat.succ.inj h) fun z hz => hy z (List.mem_cons_of_mem _ hz)
    have h0 := hy y List.mem_cons_self
    show x * y + dotI xs ys ≤ x * (if decide (x > 0) = true then b else a) + dotI xs (pick a b (fun t => decide (t > 0)) xs)
    have : x * y ≤ x * (if decide (x > 0) = true then b else a) := by
      by_cases c : x > 0
      · rw [if_pos (decide_eq_true c)]
        exact Int.mul_le_mul_of_nonneg_left h0.2 (by omega)
      · rw [if_neg (by simpa using c)]
        exact Int.mul_le_mul_of_nonpos_left (by omega) h0.1
    omega
theorem pick_snoc (a b : Int) (f : Int → Bool) (xs : List Int) (i : Nat) (t : Int) (h : xs[i]? = some t) : pick a b f (xs.take (i + 1)) = pick a b f (xs.take i) ++ [if f t = true then b else a] := by
  unfold pick
  rw [List.take_succ, h, Option.toList_some, List.map_append]
  rfl
theorem dp_ints {K : PySem.W.Frag} {H : Hp} : ∀ ds : List Int, DpAll K H (ds.map V.int) (ds.map PyData.int)
  | [] => .nil
  | d :: ds => .cons (.int d) (dp_ints ds)
theorem eqv_ints (ds : List Int) : PyData.eqv (.list (ds.map PyData.int)) (.list (ds.map PyData.int)) = true := SeqAt.eqv_refl _ (SeqAt.canLay_of_shaped (PySem.W.shaped_ints ds))
def Small (ns : List Int) : Prop := ns.length ≤ 40 ∧ ∀ n ∈ ns, n.natAbs < 1000000000000000000
def spNums : Sp := fun vs H Q _ => ∃ (a : Addr) (ns : List Int) (lo hi : Int), vs = [.ref a, .int lo, .int hi] ∧ H a = some (.lst (ns.map V.int)) ∧ Small ns ∧ lo ≤ ns.length ∧ (ns.length : Int) ≤ hi ∧ ∀ H', Same H H' → Q (.bl true) H'
def spDot : Sp := fun vs H Q _ => ∃ (a c : Addr) (xs ys : List Int), vs = [.ref a, .ref c] ∧ H a = some (.lst (xs.map V.int)) ∧ H c = some (.lst (ys.map V.int)) ∧ Small xs ∧ xs.length = ys.length ∧ ∀ H', Same H H' → Q (.int (dotI xs ys)) H'
def spTaps : Sp := fun vs H Q _ => ∃ (a : Addr) (ns : List Int), vs = [.ref a] ∧ H a = some (.lst (ns.map V.int)) ∧ Small ns ∧ 1 ≤ ns.length ∧ ∀ H', Same H H' → Q .non H'
abbrev lowR (l h : Int) (ns : List Int) : List Int := pick l h (fun t => decide (t < 0)) ns
abbrev upR (l h : Int) (ns : List Int) : List Int := pick l h (fun t => decide (t > 0)) ns
def spExt : Sp := fun vs H Q _ => ∃ (a : Addr) (ns : List Int) (l h : Int), vs = [.ref a, .int l, .int h] ∧ H a = some (.lst (ns.map V.int)) ∧ Small ns ∧ 1 ≤ ns.length ∧ l ≤ h ∧
  ∀ p b c H', H p = none → H b = none → H c = none → b ≠ p → Same H H' → H' p = some (.tup [.int (dotI ns (lowR l h ns)), .ref b, .int (dotI ns (upR l h ns)), .ref c]) → H' b = some (.lst ((lowR l h ns).reverse.map V.int)) → H' c = some (.lst ((upR l h ns).reverse.map V.int)) → b ≠ c → Q (.ref p) H'

end E1

namespace E1
open PySem PySem.Spec PyProof.Rows L2
section
variable {P : Program} {w : World} {K : PySem.W.Frag} {mg : Str → Option Value} {base : Heap}
theorem sc_is_whole : FnScope ["thing"] ["thing"] (defScope s_is_whole) := ⟨rfl, rfl, rfl, by decide +kernel, rfl, by decide +kernel, by decide +kernel⟩
theorem ok_is_whole {f : Addr} {fd : FuncData} {k : Nat} (F : Fun K "is_whole" "is_whole" s_is_whole f fd) (z : Zs mg) : FnOk P w K mg base CX0 (k + 1) f fd ["thing"] (spWhole K) := by
  refine F.ok sc_is_whole (fun vs H Q E h => ?_) (fun cdv A outer s H vs Q E hr h => ?_)
  · obtain ⟨x, b, rfl, _⟩ := h
    rfl
  · obtain ⟨x, b, rfl, hw, q⟩ := h
    refine ⟨_, (pss_one (ps_ret (pe_and (pe_callB call_isi (by rfl) z.isinstance (by decide +kernel) (pa_cons (pv 0) (pa_cons (pe_bltn (v := .ty "int") (by rfl) z.int (by decide +kernel) rfl) pa_nil))) (pe_one (pe_not (pe_callB call_isi (by rfl) z.isinstance (by decide +kernel) (pa_cons (pv 0) (pa_cons (pe_bltn (v := .ty "bool") (by rfl) z.bool (by decide +kernel) rfl) pa_nil)))))))), ?_⟩
    rcases hw with ⟨i, rfl, rfl⟩ | ⟨c, rfl, rfl⟩ | ⟨rfl, t, ty, kt⟩
    · exact ⟨_, rfl, _, .ty "int", _, _, true, rfl, .ty _, .base (.int i), kit_ty (by decide +kernel), _, rfl, iteT ⟨_, rfl, _, .ty "bool", _, _, false, rfl, .ty _, .base (.int i), kit_ty (by decide +kernel), _, rfl, q⟩⟩
    · exact ⟨_, rfl, _, .ty "int", _, _, true, rfl, .ty _, .base (.bl c), kit_ty (by decide +kernel), _, rfl, iteT ⟨_, rfl, _, .ty "bool", _, _, true, rfl, .ty _, .base (.bl c), kit_ty (by decide +kernel), _, rfl, q⟩⟩
    · exact ⟨_, rfl, _, .ty "int", _, _, false, rfl, .ty _, ty, kit_ty kt, _, rfl, iteF q⟩
theorem sc_is_numbers : FnScope ["thing", "least", "most", "number"] ["thing", "least", "most"] (defScope s_is_numbers) := ⟨rfl, rfl, rfl, by decide +kernel, rfl, by decide +kernel, by decide +kernel⟩
theorem ok_is_numbers {f : Addr} {fd : FuncData} (F : Fun K "is_numbers" "is_numbers" s_is_numbers f fd) (z : Zs mg) (tk : Tok) (g_NUMBER_END : mg "NUMBER_END" = some (.int 1000000000000000000 tk)) (c_is_whole : Cal P w K mg base 1 "is_whole" ["thing"] (spWhole K)) : FnOk P w K mg base CX0 2 f fd ["thing", "least", "most"] spNums := by
  refine F.ok sc_is_numbers (fun vs H Q E h => ?_) (fun cdv A outer s H vs Q E hr h => ?_)
  · obtain ⟨a, ns, lo, hi, rfl, _⟩ := h
    rfl
  · obtain ⟨a, ns, lo, hi, rfl, ha, hs, h1, h2, q⟩ := h
    refine ⟨_, (pss_cons (ps_if (PW.pt (pw_or (pt_not (pt_val (pe_callB call_isi (by rfl) z.isinstance (by decide +kernel) (pa_cons (pv 0) (pa_cons (pe_bltn (v := .ty "list") (by rfl) z.list (by decide +kernel) rfl) pa_nil))))) (pw_or1 (pt_not (pt_chain op_le op_le (pv 1) (pe_callB call_len_seq (by rfl) z.len PySem.boot_len (pa_cons (pv 0) pa_nil)) (pv 2)))))) (pss_one (ps_ret pe_bl)) pss_nil)
      (pss_one (ps_ret (pe_callB (cr_all rfl) (by rfl) z.all (by decide +kernel) (pa_cons (pe_lc (own := [("number", 3)]) (g := gName 3) (tt := tYes) (te := (tAndV (tCall (spWhole K) [] E0 (tCons (tVar 3) tNil)) (tOp (rI0 fun i j => V.bl (decide (i < j))) (tCB (fun xs H Q => ∃ i, xs = [V.int i] ∧ Q (.int (if i < 0 then -i else i)) H) (tCons (tVar 3) tNil)) (tC (.int 1000000000000000000))))) (by rfl) sc_is_numbers.nd (pi_list (pv 0)) (blkOk_by (own := [("number", 3)]) (N := ["thing", "least", "most", "number"]) (sc := defScope s_is_numbers) (by decide +kernel)) (fun _ _ _ _ _ => by exact (pg_name (i := 3) sc_is_numbers.nd rfl (.inl rfl))) (fun _ _ _ _ _ => by exact pts_nil) (fun _ _ _ _ _ => by exact (pe_and (pe_cal c_is_whole hr (pa_cons (pv 3) pa_nil)) (pe_one (pe_cmpR op_lt (pe_callB call_abs (by rfl) z.abs (by decide +kernel) (pa_cons (pv 3) pa_nil)) (pe_glob (v := .int 1000000000000000000) (by rfl) g_NUMBER_END ⟨_, rfl⟩) (nomark _)))))) pa_nil))))), ?_⟩
    refine ⟨_, rfl, _, .ty "list", _, _, true, rfl, .ty _, .base (.lst ha), kit_ty (by decide +kernel), _, rfl, iteF ?_⟩
    have c1 : decide (lo ≤ (((ns.map V.int).length : Nat) : Int)) = true := decide_eq_true (by rw [List.length_map]; exact h1)
    have c2 : decide ((((ns.map V.int).length : Nat) : Int) ≤ hi) = true := decide_eq_true (by rw [List.length_map]; exact h2)
    refine ⟨_, rfl, _, rfl, a, _, rfl, .inl (SqL.of ha), _, _, rfl, rfl, _, rfl, ?_⟩
    rw [c1]
    refine iteT ⟨_, rfl, _, _, rfl, rfl, _, rfl, ?_⟩
    rw [c2]
    refine iteF ?_
    refine ⟨_, rfl, a, rfl, ⟨_, SqL.of ha⟩, fun D hD => lc_list (K := K) (a := a) (xs := ns.map V.int) (fun i H' => Same H H' ∧ H' D = some (.lst (List.replicate i (V.bl true)))) ⟨same_new hD, upd_same⟩ (fun i H' _ hP => SqL.of (hP.1 _ _ ha)) (fun i x H' hx hP => ?_) (fun H' hP => ?_)⟩
    · obtain ⟨s1, hacc⟩ := hP
      rw [List.getElem?_map] at hx
      obtain ⟨n, hi', rfl⟩ := Option.map_eq_some_iff.mp hx
      have hn := hs.2 n (List.mem_of_getElem? hi')
      have hlt := (List.getElem?_eq_some_iff.mp hi').1
      have hl := hs.1
      have e0 : (if n < 0 then -n else n) < 1000000000000000000 := by split <;> omega
      refine ⟨rfl, _, rfl, _, true, rfl, .int n, _, rfl, iteT ⟨_, rfl, _, rfl, _, _, rfl, rfl, ?_⟩⟩
      dsimp only
      rw [decide_eq_true e0]
      refine ⟨_, hacc, ?_, fun b o e => ?_, ?_⟩
      · rw [List.length_replicate]
        exact small1000 (by omega)
      · rw [upd_ne (ne_of_none e hD)]
        exact s1 _ _ e
      · rw [upd_same, rep_more]
    · obtain ⟨s1, hacc⟩ := hP
      refine ⟨D, List.replicate _ true, rfl, SqL.of (by rw [rep_map]; exact hacc), ?_⟩
      rw [rep_all]
      exact q _ s1
theorem sc_dot : FnScope ["numbers", "others", "number", "other"] ["numbers", "others"] (defScope s_dot) := ⟨rfl, rfl, rfl, by decide +kernel, rfl, by decide +kernel, by decide +kernel⟩
theorem ok_dot {f : Addr} {fd : FuncData} {k : Nat} (F : Fun K "dot" "dot" s_dot f fd) (z : Zs mg) : FnOk P w K mg base CX0 (k + 1) f fd ["numbers", "others"] spDot := by
  refine F.ok sc_dot (fun vs H Q E h => ?_) (fun cdv A outer s H vs Q E hr h => ?_)
  · obtain ⟨a, c, xs, ys, rfl, _⟩ := h
    rfl
  · obtain ⟨a, c, xs, ys, rfl, ha, hc, hs, hl, q⟩ := h
    refine ⟨_, (pss_one (ps_ret (pe_callB (cr_sum rfl) (by rfl) z.sum (by decide +kernel) (pa_cons (pe_lc (own := [("number", 2), ("other", 3)]) (g := gTup K 2 (gCons (gName 2) (gCons (gName 3) gNil))) (tt := tYes) (te := (tOp (rI CMul fun i j => V.int (i * j)) (tVar 2) (tVar 3))) (by rfl) sc_dot.nd (RZ.pi_zipA (by rfl) z.zip (pa_cons (pv 0) (pa_cons (pv 1) pa_nil))) (blkOk_by (own := [("number", 2), ("other", 3)]) (N := ["numbers", "others", "number", "other"]) (sc := defScope s_dot) (by decide +kernel)) (fun _ _ _ _ _ => by exact (pg_tup (by rfl) (pgs_cons (pg_name (i := 2) sc_dot.nd rfl (.inl rfl)) (pgs_cons (pg_name (i := 3) sc_dot.nd rfl (.inl rfl)) pgs_nil)))) (fun _ _ _ _ _ => by exact pts_nil) (fun _ _ _ _ _ => by exact (pe_op op_mul (pv 2) (pv 3)))) pa_nil)))), ?_⟩
    refine ⟨_, rfl, _, rfl, a, c, _, _, rfl, .inl ⟨SqL.of ha, SqL.of hc, fun D hD => ?_⟩⟩
    refine lc_it (walk_zip (K := K) (a := a) (b := c) (xs := xs.map V.int) (ys := ys.map V.int) rfl) (fun i H2 => Same H H2 ∧ H2 D = some (.lst ((prodI (xs.take i) (ys.take i)).map V.int))) ⟨same_new hD, upd_same⟩ (fun i H2 _ hP => ⟨SqL.of (hP.1 _ _ ha), SqL.of (hP.1 _ _ hc)⟩) (fun i x H2 H3 hi hP hY => ?_) (fun H2 hP => ?_)
    · obtain ⟨s1, hacc⟩ := hP
      obtain ⟨Tp, u, v, rfl, nT, rfl, e1, e2⟩ := hY
      replace e1 : (xs.map V.int)[i]? = some u := e1
      replace e2 : (ys.map V.int)[i]? = some v := e2
      rw [List.getElem?_map] at e1 e2
      obtain ⟨n, n1, rfl⟩ := Option.map_eq_some_iff.mp e1
      obtain ⟨m, m1, rfl⟩ := Option.map_eq_some_iff.mp e2
      have hn := hs.2 n (List.mem_of_getElem? n1)
      have li := (List.getElem?_eq_some_iff.mp n1).1
      have h40 := hs.1
      have sN := same_new (o := .tup [.int n, .int m]) nT
      have tl : (xs.take i).length = (ys.take i).length := by rw [List.length_take, List.length_take, hl]
      refine ⟨Tp, [.int n, .int m], rfl, SqT.of upd_same, rfl, _, _, rfl, _, _, rfl, rfl, rfl, ?_⟩
      refine ⟨_, rfl, _, rfl, _, _, rfl, rfl, .inl ⟨by omega, by omega⟩, _, sN _ _ hacc, ?_, fun b o e => ?_, ?_⟩
      · rw [List.length_map, prodI_len _ _ tl, List.length_take]
        exact small1000 (by omega)
      · rw [upd_ne (ne_of_none e hD)]
        exact sN _ _ (s1 _ _ e)
      · rw [upd_same, List.take_succ, List.take_succ, n1, m1, Option.toList_some, Option.toList_some, prodI_snoc _ _ _ _ tl, List.map_append]
        rfl
    · obtain ⟨s1, hacc⟩ := hP
      rw [List.length_map, List.length_map, ← hl, Nat.min_self, List.take_length, hl, List.take_length] at hacc
      refine ⟨D, _, rfl, SqL.of hacc, ?_⟩
      rw [prodI_sum]
      exact q _ s1
theorem sc_check_taps : FnScope ["taps"] ["taps"] (defScope s_check_taps) := ⟨rfl, rfl, rfl, by decide +kernel, rfl, by decide +kernel, by decide +kernel⟩
theorem ok_check_taps {f : Addr} {fd : FuncData} (F : Fun K "check_taps" "check_taps" s_check_taps f fd) (tk : Tok) (g_MOST_TAPS : mg "MOST_TAPS" = some (.int 40 tk)) (c_is_numbers : Cal P w K mg base 2 "is_numbers" ["thing", "least", "most"] spNums) : FnOk P w K mg base CX0 3 f fd ["taps"] spTaps := by
  refine F.ok sc_check_taps (fun vs H Q E h => ?_) (fun cdv A outer s H vs Q E hr h => ?_)
  · obtain ⟨a, ns, rfl, _⟩ := h
    rfl
  · obtain ⟨a, ns, rfl, ha, hs, h1, q⟩ := h
    refine ⟨_, (pss_one (ps_if (pt_not (pt_val (pe_cal c_is_numbers hr (pa_cons (pv 0) (pa_cons pe_int (pa_cons (pe_glob (v := .int 40) (by rfl) g_MOST_TAPS ⟨_, rfl⟩) pa_nil)))))) (pss_one ps_never) pss_nil)), ?_⟩
    have h40 := hs.1
    refine ⟨_, rfl, a, ns, 1, 40, rfl, ha, hs, by omega, by omega, fun H' s1 => ?_⟩
    exact ⟨_, rfl, iteF (q _ s1)⟩
theorem sc_extremes : FnScope ["taps", "low", "high", "least", "greatest", "tap"] ["taps", "low", "high"] (defScope s_extremes) := ⟨rfl, rfl, rfl, by decide +kernel, rfl, by decide +kernel, by decide +kernel⟩
theorem ok_extremes {f : Addr} {fd : FuncData} (F : Fun K "extremes" "extremes" s_extremes f fd) (z : Zs mg) (c_is_whole : Cal P w K mg base 1 "is_whole" ["thing"] (spWhole K)) (c_check_taps : Cal P w K mg base 3 "check_taps" ["taps"] spTaps) (c_dot : Cal P w K mg base 1 "dot" ["numbers", "others"] spDot) : FnOk P w K mg base CX0 4 f fd ["taps", "low", "high"] spExt := by
  refine F.ok sc_extremes (fun vs H Q E h => ?_) (fun cdv A outer s H vs Q E hr h => ?_)
  · obtain ⟨a, ns, l, h, rfl, _⟩ := h
    rfl
  · obtain ⟨a, ns, l, h, rfl, ha, hs, h1, hlh, q⟩ := h
    refine ⟨_, (pss_cons (ps_expr (pe_cal c_check_taps hr (pa_cons (pv 0) pa_nil)))
      (pss_cons (ps_if (PW.pt (pw_or (pt_not (pt_val (pe_cal c_is_whole hr (pa_cons (pv 1) pa_nil)))) (pw_or (pt_not (pt_val (pe_cal c_is_whole hr (pa_cons (pv 2) pa_nil)))) (pw_or1 (pt_cmpR op_gt (pv 1) (pv 2) (nomark _)))))) (pss_one ps_never) pss_nil)
      (pss_cons (ps_setLc (i := 3) (own := [("tap", 5)]) (g := gName 5) (tt := tYes) (te := (tIf (tTest (tOp (rI0 fun i j => V.bl (decide (i < j))) (tVar 5) (tC (.int 0)))) (tVar 2) (tVar 1))) (by rfl) sc_extremes.nd rfl rfl (sw_true rfl rfl rfl (by decide +kernel)) (pi_list (pv 0)) (blkOk_by (own := [("tap", 5)]) (N := ["taps", "low", "high", "least", "greatest", "tap"]) (sc := defScope s_extremes) (by decide +kernel)) (fun _ _ _ _ _ => by exact (pg_name (i := 5) sc_extremes.nd rfl (.inl rfl))) (fun _ _ _ _ _ => by exact pts_nil) (fun _ _ _ _ _ => by exact (pe_ifExp (pt_cmpR op_lt (pv 5) pe_int (nomark _)) (pv 2) (pv 1))))
      (pss_cons (ps_setLc (i := 4) (own := [("tap", 5)]) (g := gName 5) (tt := tYes) (te := (tIf (tTest (tOp (rI0 fun i j => V.bl (decide (i > j))) (tVar 5) (tC (.int 0)))) (tVar 2) (tVar 1))) (by rfl) sc_extremes.nd rfl rfl (sw_true rfl rfl rfl (by decide +kernel)) (pi_list (pv 0)) (blkOk_by (own := [("tap", 5)]) (N := ["taps", "low", "high", "least", "greatest", "tap"]) (sc := defScope s_extremes) (by decide +kernel)) (fun _ _ _ _ _ => by exact (pg_name (i := 5) sc_extremes.nd rfl (.inl rfl))) (fun _ _ _ _ _ => by exact pts_nil) (fun _ _ _ _ _ => by exact (pe_ifExp (pt_cmpR op_gt (pv 5) pe_int (nomark _)) (pv 2) (pv 1))))
      (pss_one (ps_ret (pe_tup (pa_cons (pe_cal c_dot hr (pa_cons (pv 0) (pa_cons (pv 3) pa_nil))) (pa_cons (pe_revL (pv 3)) (pa_cons (pe_cal c_dot hr (pa_cons (pv 0) (pa_cons (pv 4) pa_nil))) (pa_cons (pe_revL (pv 4)) pa_nil))))))))))), ?_⟩
    have h40 := hs.1
    refine ⟨_, rfl, a, ns, rfl, ha, hs, h1, fun H0 s0 => ?_⟩
    refine ⟨_, rfl, _, true, rfl, .int l, _, rfl, iteF ⟨_, rfl, _, true, rfl, .int h, _, rfl, iteF ⟨_, rfl, _, rfl, _, _, rfl, rfl, _, rfl, ite2 (fun c => absurd (toB c) (by omega)) (fun _ => ?_)⟩⟩⟩
    refine ⟨_, rfl, ?_⟩
    refine ⟨a, rfl, ⟨_, SqL.of (s0 _ _ ha)⟩, fun D0 hD0 => lc_list (K := K) (a := a) (xs := ns.map V.int) (fun i H' => Same H0 H' ∧ H' D0 = some (.lst ((pick l h (fun t => decide (t < 0)) (ns.take i)).map V.int))) ⟨same_new hD0, upd_same⟩ (fun i H' _ hP => SqL.of (hP.1 _ _ (s0 _ _ ha))) (fun i x H' hx hP => ?_) (fun H0' hP0 => ?_)⟩
    · obtain ⟨s1, hacc⟩ := hP
      rw [List.getElem?_map] at hx
      obtain ⟨n, hi', rfl⟩ := Option.map_eq_some_iff.mp hx
      have hlt := (List.getElem?_eq_some_iff.mp hi').1
      have fin : ∀ v : Int, v = (if decide (n < 0) = true then h else l) → ∃ acc, H' D0 = some (.lst acc) ∧ acc.length < sizeLine ∧ (Same H0 (upd H' D0 (.lst (acc ++ [.int v]))) ∧ (upd H' D0 (.lst (acc ++ [.int v]))) D0 = some (.lst ((pick l h (fun t => decide (t < 0)) (ns.take (i + 1))).map V.int))) := fun v hv => by
        refine ⟨_, hacc, ?_, fun b o e => ?_, ?_⟩
        · rw [List.length_map, pick_len, List.length_take]
          exact small1000 (by omega)
        · rw [upd_ne (ne_of_none e hD0)]
          exact s1 _ _ e
        · rw [upd_same, pick_snoc l h _ ns i n hi', List.map_append, hv]
          rfl
      refine ⟨rfl, _, rfl, _, _, rfl, rfl, _, rfl, ite2 (fun c => ⟨_, rfl, fin _ (by rw [if_pos c])⟩) (fun c => ⟨_, rfl, fin _ (by rw [if_neg c])⟩)⟩
    obtain ⟨s1, hb0⟩ := hP0
    rw [List.length_map, List.take_length] at hb0
    have S1 := s0.trans s1
    generalize hH1 : H0' = H1 at *
    refine ⟨_, rfl, ?_⟩
    refine ⟨a, rfl, ⟨_, SqL.of (S1 _ _ ha)⟩, fun D1 hD1 => lc_list (K := K) (a := a) (xs := ns.map V.int) (fun i H' => Same H1 H' ∧ H' D1 = some (.lst ((pick l h (fun t => decide (t > 0)) (ns.take i)).map V.int))) ⟨same_new hD1, upd_same⟩ (fun i H' _ hP => SqL.of (hP.1 _ _ (S1 _ _ ha))) (fun i x H' hx hP => ?_) (fun H1' hP1 => ?_)⟩
    · obtain ⟨s1, hacc⟩ := hP
      rw [List.getElem?_map] at hx
      obtain ⟨n, hi', rfl⟩ := Option.map_eq_some_iff.mp hx
      have hlt := (List.getElem?_eq_some_iff.mp hi').1
      have fin : ∀ v : Int, v = (if decide (n > 0) = true then h else l) → ∃ acc, H' D1 = some (.lst acc) ∧ acc.length < sizeLine ∧ (Same H1 (upd H' D1 (.lst (acc ++ [.int v]))) ∧ (upd H' D1 (.lst (acc ++ [.int v]))) D1 = some (.lst ((pick l h (fun t => decide (t > 0)) (ns.take (i + 1))).map V.int))) := fun v hv => by
        refine ⟨_, hacc, ?_, fun b o e => ?_, ?_⟩
        · rw [List.length_map, pick_len, List.length_take]
          exact small1000 (by omega)
        · rw [upd_ne (ne_of_none e hD1)]
          exact s1 _ _ e
        · rw [upd_same, pick_snoc l h _ ns i n hi', List.map_append, hv]
          rfl
      refine ⟨rfl, _, rfl, _, _, rfl, rfl, _, rfl, ite2 (fun c => ⟨_, rfl, fin _ (by rw [if_pos c])⟩) (fun c => ⟨_, rfl, fin _ (by rw [if_neg c])⟩)⟩
    obtain ⟨s2, hb1⟩ := hP1
    rw [List.length_map, List.take_length] at hb1
    have S2 := S1.trans s2
    have hb0' := s2 _ _ hb0
    refine ⟨_, rfl, _, rfl, a, D0, ns, _, rfl, S2 _ _ ha, hb0', hs, (pick_len _ _ _ _).symm, fun H3 s3 => ?_⟩
    refine ⟨_, rfl, D0, _, rfl, SqL.of (s3 _ _ hb0'), fun b hb => ?_⟩
    have s4 := s3.trans (same_new (o := .lst ((lowR l h ns).map V.int).reverse) hb)
    refine ⟨_, rfl, _, rfl, a, D1, ns, _, rfl, s4 _ _ (S2 _ _ ha), s4 _ _ hb1, hs, (pick_len _ _ _ _).symm, fun H5 s5 => ?_⟩
    refine ⟨_, rfl, D1, _, rfl, SqL.of (s5 _ _ (s4 _ _ hb1)), fun c hc => ?_⟩
    have s6 := s5.trans (same_new (o := .lst ((upR l h ns).map V.int).reverse) hc)
    refine ⟨(by show 4 ≤ sizeLine; decide), fun p hp => ?_⟩
    have s7 := s6.trans (same_new (o := .tup [.int (dotI ns (lowR l h ns)), .ref b, .int (dotI ns (upR l h ns)), .ref c]) hp)
    have bb : (upd H5 c (.lst ((upR l h ns).map V.int).reverse)) b = some (.lst ((lowR l h ns).map V.int).reverse) := s6 _ _ upd_same
    have nb : b ≠ p := ne_of_none bb hp
    have nbc : b ≠ c := ne_of_none (s5 _ _ upd_same) hc
    have nc : c ≠ p := ne_of_none upd_same hp
    refine q p b c _ ?_ ?_ ?_ nb ((S2.trans s3).trans (same_new hb |>.trans s7)) upd_same ?_ ?_ nbc
    · exact (S2.trans s3).free ((same_new (o := .lst ((lowR l h ns).map V.int).reverse) hb).free (s6.free hp))
    · exact (S2.trans s3).free hb
    · exact (S2.trans s3).free ((same_new (o := .lst ((lowR l h ns).map V.int).reverse) hb).free (s5.free hc))
    · rw [upd_ne nb, bb, List.map_reverse]
    · rw [upd_ne nc, upd_same, List.map_reverse]
end
end E1

namespace E1
open PySem PySem.Spec PyProof.Rows L2
section
variable {P : Program} {w : World} {K : PySem.W.Frag} {mg : Str → Option Value} {base : Heap}
theorem sc__law_same : FnScope ["_law_found", "_law_due", "_law_one", "_law_other"] ["_law_found", "_law_due"] (defScope s__law_same) := ⟨rfl, rfl, rfl, by decide +kernel, rfl, by decide +kernel, by decide +kernel⟩
theorem ok_same {f : Addr} {fd : FuncData} {k n : Nat} (F : Fun K "_law_same" "_law_same" s__law_same f fd) (z : Zs mg) (c__law_same : Cal P w K mg base k "_law_same" ["_law_found", "_law_due"] (spSameN n)) : FnOk P w K mg base CX0 (k + 1) f fd ["_law_found", "_law_due"] (spSameN (n + 1)) := by
  refine F.ok sc__law_same (fun vs H Q E h => ?_) (fun cdv A outer s H vs Q E hr h => ?_)
  · obtain ⟨x, y, rfl, _⟩ := h
    rfl
  · obtain ⟨x, y, rfl, hh, q⟩ := h
    refine ⟨_, (pss_cons (ps_if (pt_val (pe_callB call_isiT (by rfl) z.isinstance (by decide +kernel) (pa_cons (pv 1) (pa_cons (pe_tup (pa_cons (pe_bltn (v := .ty "list") (by rfl) z.list (by decide +kernel) rfl) (pa_cons (pe_bltn (v := .ty "tuple") (by rfl) z.tuple (by decide +kernel) rfl) pa_nil))) pa_nil)))) (pss_cons (ps_if (PW.pt (pw_or (pt_cmpR op_ne (pe_callB call_isi (by rfl) z.isinstance (by decide +kernel) (pa_cons (pv 1) (pa_cons (pe_bltn (v := .ty "list") (by rfl) z.list (by decide +kernel) rfl) pa_nil))) (pe_callB call_isi (by rfl) z.isinstance (by decide +kernel) (pa_cons (pv 0) (pa_cons (pe_bltn (v := .ty "list") (by rfl) z.list (by decide +kernel) rfl) pa_nil))) (nomark _)) (pw_or1 (pt_cmpR op_ne (pe_callB call_isi (by rfl) z.isinstance (by decide +kernel) (pa_cons (pv 1) (pa_cons (pe_bltn (v := .ty "tuple") (by rfl) z.tuple (by decide +kernel) rfl) pa_nil))) (pe_callB call_isi (by rfl) z.isinstance (by decide +kernel) (pa_cons (pv 0) (pa_cons (pe_bltn (v := .ty "tuple") (by rfl) z.tuple (by decide +kernel) rfl) pa_nil))) (nomark _))))) (pss_one (ps_ret pe_bl)) pss_nil)
      (pss_one (ps_ret (pe_and (pe_cmpR op_eq (pe_callB call_len_seq (by rfl) z.len PySem.boot_len (pa_cons (pv 0) pa_nil)) (pe_callB call_len_seq (by rfl) z.len PySem.boot_len (pa_cons (pv 1) pa_nil)) (nomark _)) (pe_one (pe_callB (cr_all rfl) (by rfl) z.all (by decide +kernel) (pa_cons (pe_lc (own := [("_law_one", 2), ("_law_other", 3)]) (g := gTup K 2 (gCons (gName 2) (gCons (gName 3) gNil))) (tt := tYes) (te := (tCall (spSameN n) [] E0 (tCons (tVar 2) (tCons (tVar 3) tNil)))) (by rfl) sc__law_same.nd (RZ.pi_zipA (by rfl) z.zip (pa_cons (pv 0) (pa_cons (pv 1) pa_nil))) (blkOk_by (own := [("_law_one", 2), ("_law_other", 3)]) (N := ["_law_found", "_law_due", "_law_one", "_law_other"]) (sc := defScope s__law_same) (by decide +kernel)) (fun _ _ _ _ _ => by exact (pg_tup (by rfl) (pgs_cons (pg_name (i := 2) sc__law_same.nd rfl (.inl rfl)) (pgs_cons (pg_name (i := 3) sc__law_same.nd rfl (.inl rfl)) pgs_nil)))) (fun _ _ _ _ _ => by exact pts_nil) (fun _ _ _ _ _ => by exact (pe_cal (hle := Nat.le_refl _) c__law_same hr (pa_cons (pv 2) (pa_cons (pv 3) pa_nil))))) pa_nil))))))) pss_nil)
      (pss_cons (ps_if (pt_cmpR op_isN (pv 1) pe_non (nomark _)) (pss_one (ps_ret (pe_cmpR op_isN (pv 0) pe_non (nomark _)))) pss_nil)
      (pss_cons (ps_if (pt_val (pe_callB call_isiT (by rfl) z.isinstance (by decide +kernel) (pa_cons (pv 1) (pa_cons (pe_tup (pa_cons (pe_bltn (v := .ty "bool") (by rfl) z.bool (by decide +kernel) rfl) (pa_cons (pe_bltn (v := .ty "str") (by rfl) z.str (by decide +kernel) rfl) pa_nil))) pa_nil)))) (pss_one (ps_ret (pe_and (pe_cmpR op_eq (pe_callB call_isi (by rfl) z.isinstance (by decide +kernel) (pa_cons (pv 0) (pa_cons (pe_bltn (v := .ty "bool") (by rfl) z.bool (by decide +kernel) rfl) pa_nil))) (pe_callB call_isi (by rfl) z.isinstance (by decide +kernel) (pa_cons (pv 1) (pa_cons (pe_bltn (v := .ty "bool") (by rfl) z.bool (by decide +kernel) rfl) pa_nil))) (nomark _)) (pe_one (pe_cmpR op_eq (pv 0) (pv 1) (nomark _)))))) pss_nil)
      (pss_one (ps_ret (pe_and (pe_callB call_isi (by rfl) z.isinstance (by decide +kernel) (pa_cons (pv 0) (pa_cons (pe_bltn (v := .ty "int") (by rfl) z.int (by decide +kernel) rfl) pa_nil))) (pe_and (pe_not (pe_callB call_isi (by rfl) z.isinstance (by decide +kernel) (pa_cons (pv 0) (pa_cons (pe_bltn (v := .ty "bool") (by rfl) z.bool (by decide +kernel) rfl) pa_nil)))) (pe_one (pe_cmpR op_eq (pv 0) (pv 1) (nomark _)))))))))), ?_⟩
    rcases hh with ⟨rfl, hf⟩ | ⟨a, c, xs, ys, rfl, rfl, hlen, hmax, hal, hk⟩
    · cases hf with
      | int i =>
        refine ⟨_, rfl, (by show 2 ≤ sizeLine; decide), fun p hp => ⟨_, p, _, _, _, false, rfl, upd_same, .cons (.ty _) (.cons (.ty _) .nil), .base (.int i), kit2 (t := "int") (a := "list") (b := "tuple") (r1 := false) (r2 := false) (by decide +kernel) (by decide +kernel), _, rfl, iteF ?_⟩⟩
        refine ⟨_, rfl, rfl, _, rfl, ite2 (fun c => absurd (toB c) (fun e => nomatch e)) (fun _ => ?_)⟩
        refine ⟨_, rfl, (by show 2 ≤ sizeLine; decide), fun p2 hp2 => ⟨_, p2, _, _, _, false, rfl, upd_same, .cons (.ty _) (.cons (.ty _) .nil), .base (.int i), kit2 (t := "int") (a := "bool") (b := "str") (r1 := false) (r2 := false) (by decide +kernel) (by decide +kernel), _, rfl, iteF ?_⟩⟩
        refine ⟨_, rfl, _, .ty "int", _, _, true, rfl, .ty _, .base (.int i), kit_ty (by decide +kernel), _, rfl, iteT ⟨_, rfl, _, .ty "bool", _, _, false, rfl, .ty _, .base (.int i), kit_ty (by decide +kernel), _, rfl, _, rfl, iteT ⟨_, rfl, _, rfl, rfl, ?_⟩⟩⟩
        rw [decide_eq_true rfl]
        exact q _ ((same_new hp).trans (same_new hp2))
      | bl b =>
        refine ⟨_, rfl, (by show 2 ≤ sizeLine; decide), fun p hp => ⟨_, p, _, _, _, false, rfl, upd_same, .cons (.ty _) (.cons (.ty _) .nil), .base (.bl b), kit2 (t := "bool") (a := "list") (b := "tuple") (r1 := false) (r2 := false) (by decide +kernel) (by decide +kernel), _, rfl, iteF ?_⟩⟩
        refine ⟨_, rfl, rfl, _, rfl, ite2 (fun c => absurd (toB c) (fun e => nomatch e)) (fun _ => ?_)⟩
        refine ⟨_, rfl, (by show 2 ≤ sizeLine; decide), fun p2 hp2 => ⟨_, p2, _, _, _, true, rfl, upd_same, .cons (.ty _) (.cons (.ty _) .nil), .base (.bl b), kit2 (t := "bool") (a := "bool") (b := "str") (r1 := true) (r2 := false) (by decide +kernel) (by decide +kernel), _, rfl, iteT ?_⟩⟩
        refine ⟨_, rfl, _, .ty "bool", _, _, true, rfl, .ty _, .base (.bl b), kit_ty (by decide +kernel), _, rfl, _, .ty "bool", _, _, true, rfl, .ty _, .base (.bl b), kit_ty (by decide +kernel), rfl, _, rfl, ?_⟩
        rw [decide_eq_true rfl]
        refine iteT ⟨_, rfl, _, rfl, rfl, ?_⟩
        rw [decide_eq_true rfl]
        exact q _ ((same_new hp).trans (same_new hp2))
      | str t =>
        refine ⟨_, rfl, (by show 2 ≤ sizeLine; decide), fun p hp => ⟨_, p, _, _, _, false, rfl, upd_same, .cons (.ty _) (.cons (.ty _) .nil), .base (.str t), kit2 (t := "str") (a := "list") (b := "tuple") (r1 := false) (r2 := false) (by decide +kernel) (by decide +kernel), _, rfl, iteF ?_⟩⟩
        refine ⟨_, rfl, rfl, _, rfl, ite2 (fun c => absurd (toB c) (fun e => nomatch e)) (fun _ => ?_)⟩
        refine ⟨_, rfl, (by show 2 ≤ sizeLine; decide), fun p2 hp2 => ⟨_, p2, _, _, _, true, rfl, upd_same, .cons (.ty _) (.cons (.ty _) .nil), .base (.str t), kit2 (t := "str") (a := "bool") (b := "str") (r1 := false) (r2 := true) (by decide +kernel) (by decide +kernel), _, rfl, iteT ?_⟩⟩
        refine ⟨_, rfl, _, .ty "bool", _, _, false, rfl, .ty _, .base (.str t), kit_ty (by decide +kernel), _, rfl, _, .ty "bool", _, _, false, rfl, .ty _, .base (.str t), kit_ty (by decide +kernel), rfl, _, rfl, ?_⟩
        rw [decide_eq_true rfl]
        refine iteT ⟨_, rfl, _, rfl, rfl, ?_⟩
        rw [decide_eq_true rfl]
        exact q _ ((same_new hp).trans (same_new hp2))
      | non =>
        refine ⟨_, rfl, (by show 2 ≤ sizeLine; decide), fun p hp => ⟨_, p, _, _, _, false, rfl, upd_same, .cons (.ty _) (.cons (.ty _) .nil), .base .non, kit2 (t := "NoneType") (a := "list") (b := "tuple") (r1 := false) (r2 := false) (by decide +kernel) (by decide +kernel), _, rfl, iteF ?_⟩⟩
        refine ⟨_, rfl, rfl, _, rfl, ?_⟩
        rw [decide_eq_true rfl]
        refine iteT ⟨_, rfl, rfl, ?_⟩
        rw [decide_eq_true rfl]
        exact q _ (same_new hp)
    · rcases hk with ⟨h1, h2⟩ | ⟨h1, h2⟩
      · refine ⟨_, rfl, (by show 2 ≤ sizeLine; decide), fun p hp => ⟨_, p, _, _, _, true, rfl, upd_same, .cons (.ty _) (.cons (.ty _) .nil), .base (.tup (same_new hp _ _ h2)), kit2 (t := "tuple") (a := "list") (b := "tuple") (r1 := false) (r2 := true) (by decide +kernel) (by decide +kernel), _, rfl, iteT ?_⟩⟩
        have s1 : Same H (upd H p (.tup [V.ty "list", V.ty "tuple"])) := same_new hp
        have k1 := s1 _ _ h1
        have k2 := s1 _ _ h2
        refine ⟨_, rfl, _, .ty "list", _, _, false, rfl, .ty _, .base (.tup k2), kit_ty (by decide +kernel), _, rfl, _, .ty "list", _, _, false, rfl, .ty _, .base (.tup k1), kit_ty (by decide +kernel), rfl, _, rfl, iteNS rfl ?_⟩
        refine ⟨_, rfl, _, .ty "tuple", _, _, true, rfl, .ty _, .base (.tup k2), kit_ty (by decide +kernel), _, rfl, _, .ty "tuple", _, _, true, rfl, .ty _, .base (.tup k1), kit_ty (by decide +kernel), rfl, _, rfl, iteNS rfl ?_⟩
        refine ⟨_, rfl, a, xs, rfl, .inr (SqT.of k1), _, rfl, c, ys, rfl, .inr (SqT.of k2), rfl, _, rfl, ?_⟩
        rw [decide_eq_true (by rw [hlen])]
        refine iteT ⟨_, rfl, _, rfl, a, c, xs, ys, rfl, .inr ⟨SqT.of k1, SqT.of k2, fun D hD => ?_⟩⟩
        refine lc_it (walk_zipT (K := K) (a := a) (b := c) (xs := xs) (ys := ys) rfl) (fun i H2 => Same (upd H p (.tup [V.ty "list", V.ty "tuple"])) H2 ∧ H2 D = some (.lst (List.replicate i (V.bl true))))
          ⟨same_new hD, upd_same⟩ (fun i H2 _ hP => ⟨SqT.of (hP.1 _ _ k1), SqT.of (hP.1 _ _ k2)⟩) (fun i x H2 H3 hi hP hY => ?_) (fun H2 hP => ?_)
        · obtain ⟨s2, hD2⟩ := hP
          obtain ⟨Tp, u, v, rfl, nT, rfl, e1, e2⟩ := hY
          have fu := hal i u v e1 e2
          refine ⟨Tp, [u, v], rfl, SqT.of upd_same, rfl, _, _, rfl, _, _, rfl, rfl, rfl, ?_⟩
          refine ⟨_, rfl, _, rfl, u, v, rfl, Al.same ((s1.trans s2).trans (same_new nT)) n u v fu, fun H4 s4 => ?_⟩
          have s5 : Same H2 H4 := (same_new nT).trans s4
          have hil : i < 1001 := by
            rw [hlen, Nat.min_self] at hi
            omega
          refine ⟨_, s5 _ _ hD2, ?_, fun b o e => ?_, ?_⟩
          · rw [List.length_replicate]
            exact small1000 (by omega)
          · rw [upd_ne (ne_of_none e hD)]
            exact s5 _ _ (s2 _ _ e)
          · rw [upd_same, rep_more]
        · obtain ⟨s2, hD2⟩ := hP
          refine ⟨D, List.replicate _ true, rfl, SqL.of (by rw [rep_map]; exact hD2), ?_⟩
          rw [rep_all]
          exact q _ (s1.trans s2)
      · refine ⟨_, rfl, (by show 2 ≤ sizeLine; decide), fun p hp => ⟨_, p, _, _, _, true, rfl, upd_same, .cons (.ty _) (.cons (.ty _) .nil), .base (.lst (same_new hp _ _ h2)), kit2 (t := "list") (a := "list") (b := "tuple") (r1 := true) (r2 := false) (by decide +kernel) (by decide +kernel), _, rfl, iteT ?_⟩⟩
        have s1 : Same H (upd H p (.tup [V.ty "list", V.ty "tuple"])) := same_new hp
        have k1 := s1 _ _ h1
        have k2 := s1 _ _ h2
        refine ⟨_, rfl, _, .ty "list", _, _, true, rfl, .ty _, .base (.lst k2), kit_ty (by decide +kernel), _, rfl, _, .ty "list", _, _, true, rfl, .ty _, .base (.lst k1), kit_ty (by decide +kernel), rfl, _, rfl, iteNS rfl ?_⟩
        refine ⟨_, rfl, _, .ty "tuple", _, _, false, rfl, .ty _, .base (.lst k2), kit_ty (by decide +kernel), _, rfl, _, .ty "tuple", _, _, false, rfl, .ty _, .base (.lst k1), kit_ty (by decide +kernel), rfl, _, rfl, iteNS rfl ?_⟩
        refine ⟨_, rfl, a, xs, rfl, .inl (SqL.of k1), _, rfl, c, ys, rfl, .inl (SqL.of k2), rfl, _, rfl, ?_⟩
        rw [decide_eq_true (by rw [hlen])]
        refine iteT ⟨_, rfl, _, rfl, a, c, xs, ys, rfl, .inl ⟨SqL.of k1, SqL.of k2, fun D hD => ?_⟩⟩
        refine lc_it (walk_zip (K := K) (a := a) (b := c) (xs := xs) (ys := ys) rfl) (fun i H2 => Same (upd H p (.tup [V.ty "list", V.ty "tuple"])) H2 ∧ H2 D = some (.lst (List.replicate i (V.bl true))))
          ⟨same_new hD, upd_same⟩ (fun i H2 _ hP => ⟨SqL.of (hP.1 _ _ k1), SqL.of (hP.1 _ _ k2)⟩) (fun i x H2 H3 hi hP hY => ?_) (fun H2 hP => ?_)
        · obtain ⟨s2, hD2⟩ := hP
          obtain ⟨Tp, u, v, rfl, nT, rfl, e1, e2⟩ := hY
          have fu := hal i u v e1 e2
          refine ⟨Tp, [u, v], rfl, SqT.of upd_same, rfl, _, _, rfl, _, _, rfl, rfl, rfl, ?_⟩
          refine ⟨_, rfl, _, rfl, u, v, rfl, Al.same ((s1.trans s2).trans (same_new nT)) n u v fu, fun H4 s4 => ?_⟩
          have s5 : Same H2 H4 := (same_new nT).trans s4
          have hil : i < 1001 := by
            rw [hlen, Nat.min_self] at hi
            omega
          refine ⟨_, s5 _ _ hD2, ?_, fun b o e => ?_, ?_⟩
          · rw [List.length_replicate]
            exact small1000 (by omega)
          · rw [upd_ne (ne_of_none e hD)]
            exact s5 _ _ (s2 _ _ e)
          · rw [upd_same, rep_more]
        · obtain ⟨s2, hD2⟩ := hP
          refine ⟨D, List.replicate _ true, rfl, SqL.of (by rw [rep_map]; exact hD2), ?_⟩
          rw [rep_all]
          exact q _ (s1.trans s2)

theorem ok_sameN {f : Addr} {fd : FuncData} {k : Nat} (F : Fun K "_law_same" "_law_same" s__law_same f fd) : FnOk P w K mg base CX0 (k + 1) f fd ["_law_found", "_law_due"] (spSameN 0) := by
  refine F.ok sc__law_same (fun vs H Q E h => ?_) (fun cdv A outer s H vs Q E hr h => ?_)
  · obtain ⟨_, _, _, h, _⟩ := h
    exact False.elim h
  · obtain ⟨_, _, _, h, _⟩ := h
    exact False.elim h
end
end E1

namespace E1
open PySem PySem.Spec PyProof.Rows L2

structure Drw (a : Addr) (H H' : Hp) : Prop where
  but : SameBut a H H'
  new : ∀ b, H b = none → H' b = none
theorem Drw.refl (a : Addr) (H : Hp) : Drw a H H := ⟨SameBut.refl a H, fun _ h => h⟩
theorem Drw.trans {a : Addr} {H H1 H2 : Hp} (x : Drw a H H1) (y : Drw a H1 H2) : Drw a H H2 := ⟨x.but.trans y.but, fun b h => y.new b (x.new b h)⟩
def spTap : Sp := fun vs H Q _ => ∃ (a : Addr) (c : Int), vs = [.ref a] ∧ WellAt H a c ∧ c ≤ 1000000 ∧ ∀ (t : Int) (H' : Hp), t.natAbs < 1000000000000000000 → Drw a H H' → Q (.int t) H'
def spEnd : Sp := fun vs H Q _ => ∃ (a : Addr) (c : Int), vs = [.ref a] ∧ WellAt H a c ∧ c ≤ 1000000 ∧ ∀ (t : Int) (H' : Hp), t.natAbs < 10 ^ 37 → Drw a H H' → WellAt H' a (c + 10) → Q (.int t) H'
def spSum (K : PySem.W.Frag) : Sp := fun vs H Q _ => ∃ (a c : Addr) (xs ys : List Int), vs = [.ref a, .ref c] ∧ H a = some (.lst (xs.map V.int)) ∧ H c = some (.lst (ys.map V.int)) ∧ Small xs ∧ xs.length = ys.length ∧ ∀ H', Same H H' → Q (.int (dotI xs ys.reverse)) H'
theorem sgn {r : Int} (h0 : 0 ≤ r) (h1 : r < 2) : 1 - 2 * r = 1 ∨ 1 - 2 * r = -1 := by omega
theorem dot_step (xs ys : List Int) (h : xs.length = ys.length) (i : Nat) (x y : Int) (hx : xs[i]? = some x) (hy : ys[i]? = some y) : dotI (xs.take (i + 1)) (ys.take (i + 1)) = dotI (xs.take i) (ys.take i) + x * y := by
  rw [List.take_succ, List.take_succ, hx, hy, Option.toList_some, Option.toList_some]
  apply dotI_snoc
  rw [List.length_take, List.length_take, h]
theorem rev_at (ys : List Int) (i : Nat) (h : i < ys.length) : ∃ y, ys.reverse[i]? = some y ∧ atI (ys.map V.int) ((ys.length : Int) - 1 - i) = some (.int y) := by
  refine ⟨ys[ys.length - 1 - i]'(by omega), ?_, ?_⟩
  · rw [List.getElem?_reverse h, List.getElem?_eq_getElem]
  · rw [show (ys.length : Int) - 1 - i = ((ys.length - 1 - i : Nat) : Int) by omega]
    refine atI_nat ?_
    rw [List.getElem?_map, List.getElem?_eq_getElem (by omega)]
    rfl
section
variable {P : Program} {w : World} {K : PySem.W.Frag} {mg : Str → Option Value} {base : Heap}
theorem sc__law_cell_at : FnScope ["_law_script", "_law_k"] ["_law_script", "_law_k"] (defScope s__law_cell_at) := ⟨rfl, rfl, rfl, by decide +kernel, rfl, by decide +kernel, by decide +kernel⟩
theorem sc__law_well : FnScope ["_law_cell"] ["_law_cell"] (defScope s__law_well) := ⟨rfl, rfl, rfl, by decide +kernel, rfl, by decide +kernel, by decide +kernel⟩
theorem sc__law_draw : FnScope ["_law_well_here", "_law_many", "_law_found", "_law_number"] ["_law_well_here", "_law_many"] (defScope s__law_draw) := ⟨rfl, rfl, rfl, by decide +kernel, rfl, by decide +kernel, by decide +kernel⟩
theorem ok_cell {f : Addr} {fd : FuncData} {k : Nat} (F : Fun K "_law_cell_at" "_law_cell_at" s__law_cell_at f fd) (zl : mg "len" = none) : FnOk P w K mg base CX0 (k + 1) f fd ["_law_script", "_law_k"] (spCell K) := by
  refine F.ok sc__law_cell_at (fun vs H Q E h => ?_) (fun cdv A outer s H vs Q E hr h => ?_)
  · obtain ⟨a, ns, k, rfl, _⟩ := h
    rfl
  · obtain ⟨a, ns, k, rfl, hS, q⟩ := h
    refine ⟨_, (pss_cons (ps_if (pt_cmpR op_lt (pv 1) (pe_callB call_len_seq (by rfl) zl PySem.boot_len (pa_cons (pv 0) pa_nil)) (nomark _)) (pss_one (ps_ret (pe_ix ix_list (pv 0) (pv 1) (fun _ _ => rfl)))) pss_nil)
      (pss_one (ps_ret pe_int))), ?_⟩
    refine ⟨_, rfl, _, rfl, a, _, rfl, .inl hS, _, _, rfl, rfl, _, rfl, ite2 (fun c => ?_) (fun c => ?_)⟩
    · have hk : k < ns.length := by
        have := toB c
        rw [List.length_map] at this
        omega
      refine ⟨_, rfl, _, rfl, a, _, k, .int (ns.getD k 0), rfl, rfl, hS, atI_nat ?_, q⟩
      rw [List.getElem?_map, List.getElem?_eq_getElem hk, List.getD_eq_getElem?_getD, List.getElem?_eq_getElem hk]
      rfl
    · have hk : ¬ k < ns.length := fun z => by
        have := toNB c
        rw [List.length_map] at this
        omega
      have e : ns.getD k 0 = 0 := by
        rw [List.getD_eq_getElem?_getD, List.getElem?_eq_none (by omega)]
        rfl
      rw [e] at q
      exact q
theorem ok_well {f : Addr} {fd : FuncData} {k : Nat} (F : Fun K "_law_well" "_law_well" s__law_well f fd) (zi : mg "int" = none) : FnOk P w K mg base CX0 (k + 1) f fd ["_law_cell"] spWell := by
  refine F.ok sc__law_well (fun vs H Q E h => ?_) (fun cdv A outer s H vs Q E hr h => ?_)
  · obtain ⟨c, rfl, _⟩ := h
    rfl
  · obtain ⟨c, rfl, q⟩ := h
    refine ⟨_, (pss_one (ps_ret (pe_lst (pa_cons (pe_op op_mul (pv 0) (pe_callTy call_int1 (by rfl) zi (by decide +kernel) (pa_cons (pe_cmpR op_ge (pv 0) (pe_op op_pow pe_int pe_int) (nomark _)) pa_nil))) (pa_cons (pe_op op_mod (pv 0) pe_int) (pa_cons pe_int pa_nil)))))), ?_⟩
    refine ⟨_, rfl, _, rfl, _, _, rfl, rfl, ⟨by decide, by decide, by decide⟩, _, _, rfl, rfl, .inr ⟨_, rfl, _, _, rfl, rfl, .inr ?_, ?_⟩⟩
    · split <;> decide
    · refine ⟨_, rfl, _, _, rfl, rfl, (by show (0 : Int) < 2147483647; decide), (by show 3 ≤ sizeLine; decide), fun p hp => ?_⟩
      exact q p hp _ (same_new hp) ⟨_, _, _, upd_same, Int.emod_nonneg _ (by decide), Int.emod_lt_of_pos _ (by decide), Int.le_refl _, Int.le_refl _⟩
theorem ok_draw {f : Addr} {fd : FuncData} {k : Nat} (F : Fun K "_law_draw" "_law_draw" s__law_draw f fd) : FnOk P w K mg base CX0 (k + 1) f fd ["_law_well_here", "_law_many"] spDraw := by
  refine F.ok sc__law_draw (fun vs H Q E h => ?_) (fun cdv A outer s H vs Q E hr h => ?_)
  · obtain ⟨a, c, m, rfl, _⟩ := h
    rfl
  · obtain ⟨a, c, m, rfl, ⟨x, y, z, hw, y0, y1, z0, z1⟩, hc, m0, m1, q⟩ := h
    have fr : ∀ o b, H b = none → (upd H a o) b = none := fun o b hb => by
      rw [upd_ne (fun e => by rw [e, hw] at hb; cases hb)]
      exact hb
    refine ⟨_, (pss_cons (ps_if (pt_cmpR op_gt (pe_ix ix_list (pv 0) pe_int (fun _ _ => rfl)) pe_int (nomark _)) (pss_cons (ps_set (i := 2) sc__law_draw.nd rfl (.inl rfl) (pe_op op_mod (pe_ix ix_list (pv 0) pe_int (fun _ _ => rfl)) (pv 1)))
      (pss_cons (ps_asg (pe_op op_fdivW (pe_ix ix_list (pv 0) pe_int (fun _ _ => rfl)) (pv 1)) (pg_sub (pv 0) pe_int set_list))
      (pss_one (ps_ret (pv 2))))) pss_nil)
      (pss_cons (ps_asg (pe_op op_add (pe_ix ix_list (pv 0) pe_int (fun _ _ => rfl)) pe_int) (pg_sub (pv 0) pe_int set_list))
      (pss_cons (ps_set (i := 3) sc__law_draw.nd rfl (.inl rfl) (pe_op op_mod (pe_op op_pow (pe_op op_add (pe_op op_add (pe_ix ix_list (pv 0) pe_int (fun _ _ => rfl)) (pe_op op_mul pe_int (pe_ix ix_list (pv 0) pe_int (fun _ _ => rfl)))) pe_int) pe_int) pe_int))
      (pss_cons (ps_set (i := 3) sc__law_draw.nd rfl (.inl rfl) (pe_op op_mod (pe_op op_mul (pv 3) (pe_op op_add (pe_op op_fdiv (pv 3) pe_int) pe_int)) pe_int))
      (pss_one (ps_ret (pe_op op_mod (pe_op op_mod (pe_op op_mul (pv 3) (pe_op op_add (pe_op op_fdiv (pv 3) pe_int) pe_int)) pe_int) (pv 1)))))))), ?_⟩
    refine ⟨_, rfl, a, _, 0, .int x, rfl, rfl, SqL.of hw, a0, x, 0, rfl, rfl, _, rfl, ite2 (fun c => ?_) (fun c => ?_)⟩
    · refine ⟨_, rfl, a, _, 0, .int x, rfl, rfl, SqL.of hw, a0, _, rfl, x, m, rfl, rfl, m0, ?_⟩
      refine ⟨_, rfl, a, _, 0, .int x, rfl, rfl, SqL.of hw, a0, _, rfl, x, m, rfl, rfl, wide_div m0 m1 (by decide) (Nat.le_refl _), _, rfl, a, _, 0, 0, rfl, rfl, hw, rfl, ?_⟩
      refine ⟨_, rfl, q _ _ (Int.emod_nonneg _ (by omega)) (Int.emod_lt_of_pos _ m0) SameBut.upd (fr _) ⟨_, _, _, upd_same, y0, y1, z0, by omega⟩⟩
    · refine ⟨_, rfl, a, _, 2, .int z, rfl, rfl, SqL.of hw, a2, z, 1, rfl, rfl, _, rfl, a, _, 2, 2, rfl, rfl, hw, rfl, ?_⟩
      have hw2 : (upd H a (.lst [V.int x, V.int y, V.int (z + 1)])) a = some (.lst [V.int x, V.int y, V.int (z + 1)]) := upd_same
      have n5 : 0 ≤ y + 7919 * (z + 1) + 1 ∧ y + 7919 * (z + 1) + 1 < 18446744073709551616 := by omega
      refine ⟨_, rfl, a, _, 1, .int y, rfl, rfl, SqL.of hw2, a1, _, rfl, a, _, 2, .int (z + 1), rfl, rfl, SqL.of hw2, a2, _, _, rfl, rfl, .inl ⟨by decide, by decide⟩, _, _, rfl, rfl, _, _, rfl, rfl, _, _, rfl, rfl, ⟨by decide, by decide, ?_⟩, _, _, rfl, rfl, (by show (0 : Int) < 2147483647; decide), ?_⟩
      · show (y + 7919 * (z + 1) + 1).natAbs < 18446744073709551616
        omega
      · generalize hn : (y + 7919 * (z + 1) + 1) ^ (5 : Int).toNat % 2147483647 = n
        have n0 : 0 ≤ n := by rw [← hn]; exact Int.emod_nonneg _ (by decide)
        have n1 : n < 2147483647 := by rw [← hn]; exact Int.emod_lt_of_pos _ (by decide)
        refine ⟨_, rfl, _, rfl, _, _, rfl, rfl, ⟨by decide, by decide⟩, _, _, rfl, rfl, _, _, rfl, rfl, .inl ⟨by omega, by omega⟩, _, _, rfl, rfl, (by show (0 : Int) < 2147483629; decide), ?_⟩
        generalize hm : n * (n / 1009 + 69621) % 2147483629 = u
        have u0 : 0 ≤ u := by rw [← hm]; exact Int.emod_nonneg _ (by decide)
        have u1 : u < 2147483629 := by rw [← hm]; exact Int.emod_lt_of_pos _ (by decide)
        refine ⟨_, rfl, _, rfl, _, _, rfl, rfl, ⟨by decide, by decide⟩, _, _, rfl, rfl, _, _, rfl, rfl, .inl ⟨by omega, by omega⟩, _, _, rfl, rfl, (by show (0 : Int) < 2147483587; decide), _, rfl, _, _, rfl, rfl, m0, ?_⟩
        exact q _ _ (Int.emod_nonneg _ (by omega)) (Int.emod_lt_of_pos _ m0) SameBut.upd (fr _) ⟨_, _, _, upd_same, y0, y1, by omega, by omega⟩
theorem sc__law_tap : FnScope ["_law_well_here", "_law_sort", "_law_sign", "_law_found"] ["_law_well_here"] (defScope s__law_tap) := ⟨rfl, rfl, rfl, by decide +kernel, rfl, by decide +kernel, by decide +kernel⟩
theorem ok__law_tap {f : Addr} {fd : FuncData} (F : Fun K "_law_tap" "_law_tap" s__law_tap f fd) (c__law_draw : Cal P w K mg base 1 "_law_draw" ["_law_well_here", "_law_many"] spDraw) : FnOk P w K mg base CX0 2 f fd ["_law_well_here"] spTap := by
  refine F.ok sc__law_tap (fun vs H Q E h => ?_) (fun cdv A outer s H vs Q E hr h => ?_)
  · obtain ⟨a, c, rfl, _⟩ := h
    rfl
  · obtain ⟨a, c, rfl, w0, hc, q⟩ := h
    refine ⟨_, (pss_cons (ps_set (i := 1) sc__law_tap.nd rfl (.inl rfl) (pe_cal c__law_draw hr (pa_cons (pv 0) (pa_cons pe_int pa_nil))))
      (pss_cons (ps_set (i := 2) sc__law_tap.nd rfl (.inl rfl) (pe_op op_sub pe_int (pe_op op_mul pe_int (pe_cal c__law_draw hr (pa_cons (pv 0) (pa_cons pe_int pa_nil))))))
      (pss_cons (ps_if (pt_cmpR op_eq (pv 1) pe_int (nomark _)) (pss_one (ps_ret pe_int)) pss_nil)
      (pss_cons (ps_if (pt_cmpR op_eq (pv 1) pe_int (nomark _)) (pss_one (ps_ret (pe_op op_mul (pv 2) (pe_cal c__law_draw hr (pa_cons (pv 0) (pa_cons pe_int pa_nil)))))) pss_nil)
      (pss_cons (ps_set (i := 3) sc__law_tap.nd rfl (.inl rfl) (pe_cal c__law_draw hr (pa_cons (pv 0) (pa_cons (pe_op op_pow pe_int pe_int) pa_nil))))
      (pss_one (ps_ret (pe_op op_mul (pv 2) (pe_op op_add (pe_op op_mul (pv 3) (pe_op op_pow pe_int pe_int)) (pe_cal c__law_draw hr (pa_cons (pv 0) (pa_cons (pe_op op_pow pe_int pe_int) pa_nil)))))))))))), ?_⟩
    refine ⟨_, rfl, a, c, 4, rfl, w0, by omega, by decide, by decide, fun r H1 r0 r1 d1 e1 w1 => ?_⟩
    have D1 : Drw a H H1 := ⟨d1, e1⟩
    refine ⟨_, rfl, a, _, 2, rfl, w1, by omega, by decide, by decide, fun s0 H2 s1 s2 d2 e2 w2 => ?_⟩
    have D2 := D1.trans ⟨d2, e2⟩
    have sg := sgn s1 s2
    refine ⟨_, _, rfl, rfl, .inl ⟨by decide, by decide⟩, _, _, rfl, rfl, ?_⟩
    refine ⟨_, rfl, rfl, _, rfl, ite2 (fun _ => q 0 _ (by decide) D2) (fun _ => ?_)⟩
    refine ⟨_, rfl, rfl, _, rfl, ite2 (fun _ => ?_) (fun _ => ?_)⟩
    · refine ⟨_, rfl, _, rfl, a, _, 20, rfl, w2, by omega, by decide, by decide, fun u H3 u0 u1 d3 e3 w3 => ?_⟩
      refine ⟨_, _, rfl, rfl, (.inl ⟨by omega, by omega⟩), q _ _ ?_ (D2.trans ⟨d3, e3⟩)⟩
      rcases sg with h | h <;> rw [h] <;> omega
    · refine ⟨_, rfl, _, _, rfl, rfl, ⟨by decide, by decide, by decide⟩, a, _, 10 ^ (9 : Int).toNat, rfl, w2, by omega, by decide, by decide, fun u H3 u0 u1 d3 e3 w3 => ?_⟩
      have D3 := D2.trans ⟨d3, e3⟩
      replace u1 : u < 1000000000 := u1
      refine ⟨_, rfl, _, rfl, _, _, rfl, rfl, ⟨by decide, by decide, by decide⟩, _, _, rfl, rfl, .inl ⟨by omega, by omega⟩, _, rfl, _, _, rfl, rfl, ⟨by decide, by decide, by decide⟩, a, _, 10 ^ (9 : Int).toNat, rfl, w3, by omega, by decide, by decide, fun v H4 v0 v1 d4 e4 w4 => ?_⟩
      replace v1 : v < 1000000000 := v1
      refine ⟨_, _, rfl, rfl, _, _, rfl, rfl, .inl ⟨by omega, by omega⟩, q _ _ ?_ (D3.trans ⟨d4, e4⟩)⟩
      show ((1 - 2 * s0) * (u * 1000000000 + v)).natAbs < 1000000000000000000
      rcases sg with h | h <;> rw [h] <;> omega
theorem sc__law_sum : FnScope ["_law_tap_list", "_law_row", "_law_found", "_law_at", "_law_tap_here"] ["_law_tap_list", "_law_row"] (defScope s__law_sum) := ⟨rfl, rfl, rfl, by decide +kernel, rfl, by decide +kernel, by decide +kernel⟩
theorem ok__law_sum {f : Addr} {fd : FuncData} {k : Nat} (F : Fun K "_law_sum" "_law_sum" s__law_sum f fd) (z : Zs mg) : FnOk P w K mg base CX0 (k + 1) f fd ["_law_tap_list", "_law_row"] (spSum K) := by
  refine F.ok sc__law_sum (fun vs H Q E h => ?_) (fun cdv A outer s H vs Q E hr h => ?_)
  · obtain ⟨a, c, xs, ys, rfl, _⟩ := h
    rfl
  · obtain ⟨a, c, xs, ys, rfl, ha, hc, hs, hl, q⟩ := h
    refine ⟨_, (pss_cons (ps_set (i := 2) sc__law_sum.nd rfl (.inl rfl) pe_int)
      (pss_cons (ps_for PassesOwn.never rfl (pi_enum (by rfl) z.enumerate (pa_cons (pv 0) pa_nil)) (pg_tup (by rfl) (pgs_cons (pg_name (i := 3) sc__law_sum.nd rfl (.inl rfl)) (pgs_cons (pg_name (i := 4) sc__law_sum.nd rfl (.inl rfl)) pgs_nil))) (pss_one (ps_set (i := 2) sc__law_sum.nd rfl (.inl rfl) (pe_op op_add (pv 2) (pe_op op_mul (pv 4) (pe_ix ix_list (pv 1) (pe_op op_sub (pe_op op_sub (pe_callB call_len_seq (by rfl) z.len PySem.boot_len (pa_cons (pv 1) pa_nil)) pe_int) (pv 3)) (fun _ _ => rfl)))))))
      (pss_one (ps_ret (pv 2))))), ?_⟩
    have lr : xs.length = ys.reverse.length := by rw [List.length_reverse, hl]
    refine ⟨_, rfl, a, _, rfl, SqL.of ha, for_it (walk_enum (K := K) (a := a) (xs := xs.map V.int)) (fun i σ H' => ∃ y3 y4 : Option V, σ = [some (.ref a), some (.ref c), some (.int (dotI (xs.take i) (ys.reverse.take i))), y3, y4] ∧ Same H H') ⟨none, none, rfl, Same.refl _⟩ (fun i σ H' _ hP => ?_) (fun i v σ H1 H2 hi hP hY => ?_) (fun σ H' hP => ?_)⟩
    · obtain ⟨y3, y4, rfl, s1⟩ := hP
      exact SqL.of (s1 _ _ ha)
    · obtain ⟨y3, y4, rfl, s1⟩ := hP
      obtain ⟨Tp, u, v', rfl, nT, rfl, e1, e2⟩ := hY
      cases e1
      replace e2 : (xs.map V.int)[i]? = some v' := e2
      rw [List.getElem?_map] at e2
      obtain ⟨d, hn, rfl⟩ := Option.map_eq_some_iff.mp e2
      have li := (List.getElem?_eq_some_iff.mp hn).1
      have hd := hs.2 d (List.mem_of_getElem? hn)
      have s2 := s1.trans (same_new (o := .tup [.int (i : Nat), .int d]) nT)
      obtain ⟨y, hy, hat⟩ := rev_at ys i (by omega)
      refine ⟨Tp, [.int (i : Nat), .int d], rfl, SqT.of upd_same, rfl, _, _, rfl, _, _, rfl, rfl, ?_⟩
      refine ⟨_, rfl, _, rfl, _, rfl, _, rfl, c, _, rfl, .inl (SqL.of (s2 _ _ hc)), _, _, rfl, rfl, _, rfl, _, _, rfl, rfl, c, _, _, .int y, rfl, rfl, SqL.of (s2 _ _ hc), (by rw [List.length_map]; exact hat), _, _, rfl, rfl, .inl ⟨by omega, by omega⟩, _, _, rfl, rfl, some (.int (i : Nat)), some (.int d), ?_, s2⟩
      rw [dot_step xs ys.reverse lr i d y hn hy]
      rfl
    · obtain ⟨y3, y4, rfl, s1⟩ := hP
      have := q _ s1
      rw [List.length_map, List.take_length, lr, List.take_length]
      exact ⟨_, rfl, this⟩
theorem sc__law_end : FnScope ["_law_well_here", "_law_found", "_law_k"] ["_law_well_here"] (defScope s__law_end) := ⟨rfl, rfl, rfl, by decide +kernel, rfl, by decide +kernel, by decide +kernel⟩
theorem ok__law_end {f : Addr} {fd : FuncData} (F : Fun K "_law_end" "_law_end" s__law_end f fd) (z : Zs mg) (c__law_draw : Cal P w K mg base 1 "_law_draw" ["_law_well_here", "_law_many"] spDraw) : FnOk P w K mg base CX0 2 f fd ["_law_well_here"] spEnd := by
  refine F.ok sc__law_end (fun vs H Q E h => ?_) (fun cdv A outer s H vs Q E hr h => ?_)
  · obtain ⟨a, c, rfl, _⟩ := h
    rfl
  · obtain ⟨a, c, rfl, w0, hc, q⟩ := h
    refine ⟨_, (pss_cons (ps_set (i := 1) sc__law_end.nd rfl (.inl rfl) (pe_cal c__law_draw hr (pa_cons (pv 0) (pa_cons pe_int pa_nil))))
      (pss_cons (ps_if (pt_cmpR op_eq (pe_cal c__law_draw hr (pa_cons (pv 0) (pa_cons pe_int pa_nil))) pe_int (nomark _)) (pss_one (ps_for PassesOwn.never rfl (pi_range1 (by rfl) z.range (pa_cons pe_int pa_nil)) (pg_name (i := 2) sc__law_end.nd rfl (.inl rfl)) (pss_one (ps_set (i := 1) sc__law_end.nd rfl (.inl rfl) (pe_op op_add (pe_op op_mul (pv 1) (pe_op op_pow pe_int pe_int)) (pe_cal c__law_draw hr (pa_cons (pv 0) (pa_cons (pe_op op_pow pe_int pe_int) pa_nil)))))))) pss_nil)
      (pss_one (ps_ret (pe_op op_mul (pv 1) (pe_op op_sub pe_int (pe_op op_mul pe_int (pe_cal c__law_draw hr (pa_cons (pv 0) (pa_cons pe_int pa_nil)))))))))), ?_⟩
    refine ⟨_, rfl, a, c, 9, rfl, w0, by omega, by decide, by decide, fun r H1 r0 r1 d1 e1 w1 => ?_⟩
    have D1 : Drw a H H1 := ⟨d1, e1⟩
    refine ⟨_, rfl, a, _, 2, rfl, w1, by omega, by decide, by decide, fun s0 H2 s1 s2 d2 e2 w2 => ?_⟩
    have D2 := D1.trans ⟨d2, e2⟩
    have fin : ∀ (v u : Int), 0 ≤ v → v < 9 * 1000000000 ^ 4 → 0 ≤ u → u < 2 → (v * (1 - 2 * u)).natAbs < 10 ^ 37 := fun v u v0 v1 u0 u1 => by
      have sg := sgn u0 u1
      have e : (10 : Nat) ^ 37 = 10000000000000000000000000000000000000 := by decide
      have e2 : (9 : Int) * 1000000000 ^ 4 = 9000000000000000000000000000000000000 := by decide
      rw [e]
      rw [e2] at v1
      rcases sg with h | h <;> rw [h] <;> omega
    refine ⟨rfl, _, rfl, ite2 (fun _ => ?_) (fun _ => ?_)⟩
    · refine ⟨4, rfl, by decide, by decide, for_range (n := 4) (fun i σ H' => ∃ (v : Int) (y : Option V), σ = [some (.ref a), some (.int v), y] ∧ 0 ≤ v ∧ v < 9 * 1000000000 ^ i ∧ Drw a H H' ∧ WellAt H' a (c + 2 + i)) ⟨r, none, rfl, r0, by omega, D2, w2.mono (by omega)⟩ (fun i σ H3 hi hP => ?_) (fun σ H3 hP => ?_)⟩
      · obtain ⟨v, y, rfl, v0, v1, D3, w3⟩ := hP
        refine ⟨_, rfl, _, _, rfl, rfl, ⟨by decide, by decide, by decide⟩, _, _, rfl, rfl, .inr ⟨by decide, by decide⟩, _, rfl, _, _, rfl, rfl, ⟨by decide, by decide, by decide⟩, a, _, 10 ^ (9 : Int).toNat, rfl, w3, by omega, by decide, by decide, fun u H4 u0 u1 d4 e4 w4 => ?_⟩
        replace u1 : u < 1000000000 := u1
        refine ⟨_, _, rfl, rfl, _, _, rfl, ?_, ?_, D3.trans ⟨d4, e4⟩, w4.mono (by omega)⟩
        · show 0 ≤ v * 1000000000 + u
          omega
        · show v * 1000000000 + u < 9 * 1000000000 ^ (i + 1)
          rw [Int.pow_succ]
          generalize (1000000000 : Int) ^ i = m at *
          omega
      · obtain ⟨v, y, rfl, v0, v1, D3, w3⟩ := hP
        refine ⟨_, rfl, _, rfl, a, _, 2, rfl, w3, by omega, by decide, by decide, fun u H4 u0 u1 d4 e4 w4 => ?_⟩
        refine ⟨_, _, rfl, rfl, .inl ⟨by decide, by decide⟩, _, _, rfl, rfl, _, _, rfl, rfl, .inr ⟨by omega, by omega⟩, q _ _ (fin _ u v0 v1 u0 u1) (D3.trans ⟨d4, e4⟩) (w4.mono (by omega))⟩
    · refine ⟨_, rfl, _, rfl, a, _, 2, rfl, w2, by omega, by decide, by decide, fun u H4 u0 u1 d4 e4 w4 => ?_⟩
      refine ⟨_, _, rfl, rfl, .inl ⟨by decide, by decide⟩, _, _, rfl, rfl, _, _, rfl, rfl, .inr ⟨by omega, by omega⟩, q _ _ (fin _ u r0 (Int.lt_of_lt_of_le r1 (by decide)) u0 u1) (D2.trans ⟨d4, e4⟩) (w4.mono (by omega))⟩
end
end E1

namespace E1
open PySem PySem.Spec PyProof.Rows L2

def spLaw (K : PySem.W.Frag) : Sp := fun vs H Q _ => ∃ (a : Addr) (ns : List Int), vs = [.ref a] ∧ SqL K H a (ns.map V.int) ∧ ns.length ≤ 63 ∧ ∀ H', Q (.bl true) H'
theorem same_but {H H1 H2 : Hp} {p : Addr} (s : Same H H1) (b : SameBut p H1 H2) (hp : H p = none) : Same H H2 := fun a o e => b a o (ne_of_none e hp) (s a o e)
theorem refInt {a : Addr} {x y : Int} (h : x = y) : [V.ref a, V.int x] = [V.ref a, V.int y] := by rw [h]
theorem two_sorted {x y : Int} {ns : List Int} (p : ns.Perm [x, y]) (r : ns.Pairwise (· ≤ ·)) : ∃ l h : Int, ns = [l, h] ∧ l ≤ h ∧ (l = x ∨ l = y) ∧ (h = x ∨ h = y) := by
  have len := p.length_eq
  match ns, len with
  | [l, h], _ =>
    have m1 : l ∈ [x, y] := p.subset (by simp)
    have m2 : h ∈ [x, y] := p.subset (by simp)
    simp only [List.mem_cons, List.not_mem_nil, or_false] at m1 m2
    refine ⟨l, h, rfl, ?_, m1, m2⟩
    exact (List.pairwise_cons.mp r).1 h (by simp)
theorem pick_at {l h : Int} {b : Bool} : atI [V.int l, V.int h] (if b = true then (1 : Int) else 0) = some (.int (if b = true then h else l)) := by
  cases b
  · exact atI_nat (j := 0) rfl
  · exact atI_nat (j := 1) rfl
section
variable {P : Program} {w : World} {K : PySem.W.Frag} {mg : Str → Option Value} {base : Heap}
theorem sc_law : FnScope ["_law_script", "_law_well_here", "_law_lowest", "_law_highest", "_law_many", "_law_k", "_law_tap_list", "_law_handed", "_law_found", "_law_below_row", "_law_above", "_law_again", "_law_row", "_law_tap_here", "_law_at"] ["_law_script"] (defScope s_law) := ⟨rfl, rfl, rfl, by decide +kernel, rfl, by decide +kernel, by decide +kernel⟩
theorem al4 (n : Nat) {H : Hp} {p t b c d e : Addr} {x y : Int} (h1 : H p = some (.tup [.int x, .ref b, .int y, .ref c])) (h2 : H t = some (.tup [.int x, .ref d, .int y, .ref e])) (hb : Al H (n + 2) (.ref b) (.ref d)) (hc : Al H (n + 2) (.ref c) (.ref e)) : Al H (n + 3) (.ref p) (.ref t) := by
  refine .inr ⟨p, t, [.int x, .ref b, .int y, .ref c], [.int x, .ref d, .int y, .ref e], rfl, rfl, rfl, (by show 4 ≤ 1000; decide), fun i u v e1 e2 => ?_, .inl ⟨h1, h2⟩⟩
  match i, e1, e2 with
  | 0, e1, e2 => cases e1; cases e2; exact Al.int x
  | 1, e1, e2 => cases e1; cases e2; exact hb
  | 2, e1, e2 => cases e1; cases e2; exact Al.int y
  | 3, e1, e2 => cases e1; cases e2; exact hc
  | i + 4, e1, _ => cases e1
theorem ok_law {f : Addr} {fd : FuncData} (F : Fun K "law" "law" s_law f fd) (z : Zs mg) (c__law_cell_at : Cal P w K mg base 1 "_law_cell_at" ["_law_script", "_law_k"] (spCell K)) (c__law_well : Cal P w K mg base 1 "_law_well" ["_law_cell"] spWell) (c__law_draw : Cal P w K mg base 1 "_law_draw" ["_law_well_here", "_law_many"] spDraw) (c__law_tap : Cal P w K mg base 2 "_law_tap" ["_law_well_here"] spTap) (c__law_end : Cal P w K mg base 2 "_law_end" ["_law_well_here"] spEnd) (c__law_sum : Cal P w K mg base 1 "_law_sum" ["_law_tap_list", "_law_row"] (spSum K)) (c__law_same : Cal P w K mg base 4 "_law_same" ["_law_found", "_law_due"] (spSameN 3)) (c_extremes : Cal P w K mg base 4 "extremes" ["taps", "low", "high"] spExt) (c_extremes_0_high_low_taps : CalK P w K mg base 4 "extremes" ["taps", "low", "high"] 0 ["high", "low", "taps"] (fun vs zs => vs ++ zs.reverse) spExt) : FnOk P w K mg base CX0 5 f fd ["_law_script"] (spLaw K) := by
  refine F.ok sc_law (fun vs H Q E h => ?_) (fun cdv A outer s H vs Q E hr h => ?_)
  · obtain ⟨a, ns, rfl, _⟩ := h
    rfl
  · obtain ⟨a, ns, rfl, hS, hn, q⟩ := h
    refine ⟨_, (pss_cons (ps_set (i := 1) sc_law.nd rfl (.inr rfl) (pe_cal c__law_well hr (pa_cons (pe_cal c__law_cell_at hr (pa_cons (pv 0) (pa_cons pe_int pa_nil))) pa_nil)))
      (pss_cons (ps_asg (pe_callB cr_sorted (by rfl) z.sorted (by decide +kernel) (pa_cons (pe_lst (pa_cons (pe_cal c__law_end hr (pa_cons (pv 1) pa_nil)) (pa_cons (pe_cal c__law_end hr (pa_cons (pv 1) pa_nil)) pa_nil))) pa_nil)) (pg_lst (by rfl) (pgs_cons (pg_name (i := 2) sc_law.nd rfl (.inr rfl)) (pgs_cons (pg_name (i := 3) sc_law.nd rfl (.inr rfl)) pgs_nil))))
      (pss_cons (ps_set (i := 4) sc_law.nd rfl (.inl rfl) (pe_op op_add pe_int (pe_cal c__law_draw hr (pa_cons (pv 1) (pa_cons pe_int pa_nil)))))
      (pss_cons (ps_setLc (i := 6) (own := [("_law_k", 5)]) (g := gName 5) (tt := tYes) (te := (tCall spTap [] E0 (tCons (tCall spWell [] E0 (tCons (tOp (rI0 fun i j => V.int (i + j)) (tCall (spCell K) [] E0 (tCons (tVar 0) (tCons (tOp (rI0 fun i j => V.int (i + j)) (tC (.int 1)) (tVar 5)) tNil))) (tVar 5)) tNil)) tNil))) (by rfl) sc_law.nd rfl rfl (sw_true rfl rfl rfl (by decide +kernel)) (pi_range1 (by rfl) z.range (pa_cons (pv 4) pa_nil)) (blkOk_by (own := [("_law_k", 5)]) (N := ["_law_script", "_law_well_here", "_law_lowest", "_law_highest", "_law_many", "_law_k", "_law_tap_list", "_law_handed", "_law_found", "_law_below_row", "_law_above", "_law_again", "_law_row", "_law_tap_here", "_law_at"]) (sc := defScope s_law) (by decide +kernel)) (fun _ _ _ _ _ => by exact (pg_name (i := 5) sc_law.nd rfl (.inl rfl))) (fun _ _ _ _ _ => by exact pts_nil) (fun _ _ _ _ _ => by exact (pe_cal c__law_tap hr (pa_cons (pe_cal c__law_well hr (pa_cons (pe_op op_add (pe_cal c__law_cell_at hr (pa_cons (pv 0) (pa_cons (pe_op op_add pe_int (pv 5)) pa_nil))) (pv 5)) pa_nil)) pa_nil))))
      (pss_cons (ps_set (i := 7) sc_law.nd rfl (.inl rfl) (pe_callTy call_list_of (by rfl) z.list (by decide +kernel) (pa_cons (pv 6) pa_nil)))
      (pss_cons (ps_set (i := 8) sc_law.nd rfl (.inl rfl) (pe_cal c_extremes hr (pa_cons (pv 7) (pa_cons (pv 2) (pa_cons (pv 3) pa_nil)))))
      (pss_cons (ps_if (PW.pt (pw_or (pt_not (pt_val (pe_callB call_isi (by rfl) z.isinstance (by decide +kernel) (pa_cons (pv 8) (pa_cons (pe_bltn (v := .ty "tuple") (by rfl) z.tuple (by decide +kernel) rfl) pa_nil))))) (pw_or (pt_cmpR op_ne (pe_callB call_len_seq (by rfl) z.len PySem.boot_len (pa_cons (pv 8) pa_nil)) pe_int (nomark _)) (pw_or1 (pt_cmpR (op_neD hr.units) (pv 7) (pv 6) (nomark _)))))) (pss_one (ps_ret pe_bl)) pss_nil)
      (pss_cons (ps_set (i := 9) sc_law.nd rfl (.inl rfl) (pe_revL (pe_lc (own := [("_law_tap_here", 13)]) (g := gName 13) (tt := tYes) (te := (tOp (rIxL K) (tLst (tCons (tVar 2) (tCons (tVar 3) tNil))) (tCB (fun xs H Q => (∃ i, xs = [V.int i] ∧ Q (.int i) H) ∨ ∃ k, xs = [V.bl k] ∧ Q (.int (if k then 1 else 0)) H) (tCons (tOp (rI0 fun i j => V.bl (decide (i < j))) (tVar 13) (tC (.int 0))) tNil)))) (by rfl) sc_law.nd (pi_list (pv 6)) (blkOk_by (own := [("_law_tap_here", 13)]) (N := ["_law_script", "_law_well_here", "_law_lowest", "_law_highest", "_law_many", "_law_k", "_law_tap_list", "_law_handed", "_law_found", "_law_below_row", "_law_above", "_law_again", "_law_row", "_law_tap_here", "_law_at"]) (sc := defScope s_law) (by decide +kernel)) (fun _ _ _ _ _ => by exact (pg_name (i := 13) sc_law.nd rfl (.inl rfl))) (fun _ _ _ _ _ => by exact pts_nil) (fun _ _ _ _ _ => by exact (pe_ix ix_list (pe_lst (pa_cons (pv 2) (pa_cons (pv 3) pa_nil))) (pe_callTy call_int1 (by rfl) z.int (by decide +kernel) (pa_cons (pe_cmpR op_lt (pv 13) pe_int (nomark _)) pa_nil)) (fun _ _ => rfl))))))
      (pss_cons (ps_set (i := 10) sc_law.nd rfl (.inl rfl) (pe_revL (pe_lc (own := [("_law_tap_here", 13)]) (g := gName 13) (tt := tYes) (te := (tOp (rIxL K) (tLst (tCons (tVar 2) (tCons (tVar 3) tNil))) (tCB (fun xs H Q => (∃ i, xs = [V.int i] ∧ Q (.int i) H) ∨ ∃ k, xs = [V.bl k] ∧ Q (.int (if k then 1 else 0)) H) (tCons (tOp (rI0 fun i j => V.bl (decide (i > j))) (tVar 13) (tC (.int 0))) tNil)))) (by rfl) sc_law.nd (pi_list (pv 6)) (blkOk_by (own := [("_law_tap_here", 13)]) (N := ["_law_script", "_law_well_here", "_law_lowest", "_law_highest", "_law_many", "_law_k", "_law_tap_list", "_law_handed", "_law_found", "_law_below_row", "_law_above", "_law_again", "_law_row", "_law_tap_here", "_law_at"]) (sc := defScope s_law) (by decide +kernel)) (fun _ _ _ _ _ => by exact (pg_name (i := 13) sc_law.nd rfl (.inl rfl))) (fun _ _ _ _ _ => by exact pts_nil) (fun _ _ _ _ _ => by exact (pe_ix ix_list (pe_lst (pa_cons (pv 2) (pa_cons (pv 3) pa_nil))) (pe_callTy call_int1 (by rfl) z.int (by decide +kernel) (pa_cons (pe_cmpR op_gt (pv 13) pe_int (nomark _)) pa_nil)) (fun _ _ => rfl))))))
      (pss_cons (ps_if (pt_not (pt_val (pe_cal c__law_same hr (pa_cons (pv 8) (pa_cons (pe_tup (pa_cons (pe_cal c__law_sum hr (pa_cons (pv 6) (pa_cons (pv 9) pa_nil))) (pa_cons (pv 9) (pa_cons (pe_cal c__law_sum hr (pa_cons (pv 6) (pa_cons (pv 10) pa_nil))) (pa_cons (pv 10) pa_nil))))) pa_nil))))) (pss_one (ps_ret pe_bl)) pss_nil)
      (pss_cons (ps_expr (pe_bm0 PySem.F.plainAttrs_list PySem.F.slot_list_clear PySem.F.type_list_clear mt_clear (pe_ix ix_tup (pv 8) pe_int (fun _ _ => rfl))))
      (pss_cons (ps_set (i := 11) sc_law.nd rfl (.inl rfl) (pe_calk0 c_extremes_0_high_low_taps hr (pk_cons (pv 3) (pk_cons (pv 2) (pk_cons (pv 6) pk_nil)))))
      (pss_cons (ps_if (pt_not (pt_val (pe_cal c__law_same hr (pa_cons (pv 11) (pa_cons (pe_tup (pa_cons (pe_cal c__law_sum hr (pa_cons (pv 6) (pa_cons (pv 9) pa_nil))) (pa_cons (pv 9) (pa_cons (pe_cal c__law_sum hr (pa_cons (pv 6) (pa_cons (pv 10) pa_nil))) (pa_cons (pv 10) pa_nil))))) pa_nil))))) (pss_one (ps_ret pe_bl)) pss_nil)
      (pss_cons (ps_for PassesOwn.never rfl (pi_range1 (by rfl) z.range (pa_cons pe_int pa_nil)) (pg_name (i := 5) sc_law.nd rfl (.inl rfl)) (pss_cons (ps_set (i := 1) sc_law.nd rfl (.inr rfl) (pe_cal c__law_well hr (pa_cons (pe_op op_add (pe_cal c__law_cell_at hr (pa_cons (pv 0) (pa_cons (pe_op op_add pe_int (pv 5)) pa_nil))) (pv 5)) pa_nil)))
      (pss_cons (ps_setLc (i := 12) (own := [("_law_at", 14)]) (g := gName 14) (tt := tYes) (te := (tOp (rI0 fun i j => V.int (i + j)) (tVar 2) (tCall spDraw [] E0 (tCons (tVar 1) (tCons (tOp (rI0 fun i j => V.int (i + j)) (tOp (rI0 fun i j => V.int (i - j)) (tVar 3) (tVar 2)) (tC (.int 1))) tNil))))) (by rfl) sc_law.nd rfl rfl (sw_true rfl rfl rfl (by decide +kernel)) (pi_range1 (by rfl) z.range (pa_cons (pv 4) pa_nil)) (blkOk_by (own := [("_law_at", 14)]) (N := ["_law_script", "_law_well_here", "_law_lowest", "_law_highest", "_law_many", "_law_k", "_law_tap_list", "_law_handed", "_law_found", "_law_below_row", "_law_above", "_law_again", "_law_row", "_law_tap_here", "_law_at"]) (sc := defScope s_law) (by decide +kernel)) (fun _ _ _ _ _ => by exact (pg_name (i := 14) sc_law.nd rfl (.inl rfl))) (fun _ _ _ _ _ => by exact pts_nil) (fun _ _ _ _ _ => by exact (pe_op op_add (pv 2) (pe_cal c__law_draw hr (pa_cons (pv 1) (pa_cons (pe_op op_add (pe_op op_sub (pv 3) (pv 2)) pe_int) pa_nil))))))
      (pss_one (ps_if (pt_not (pt_chain op_le op_le (pe_ix ix_tup (pv 11) pe_int (fun _ _ => rfl)) (pe_cal c__law_sum hr (pa_cons (pv 6) (pa_cons (pv 12) pa_nil))) (pe_ix ix_tup (pv 11) pe_int (fun _ _ => rfl)))) (pss_one (ps_ret pe_bl)) pss_nil)))))
      (pss_one (ps_ret pe_bl)))))))))))))))), ?_⟩
    refine ⟨_, rfl, a, ns, 0, rfl, hS, _, rfl, fun w1 hw1 H1 s1 k1 => ?_⟩
    refine ⟨_, rfl, w1, 0, rfl, k1, by decide, fun e1 H2 e1b D2 k2 => ?_⟩
    refine ⟨_, rfl, w1, _, rfl, k2, by decide, fun e2 H3 e2b D3 k3 => ?_⟩
    have s3 : Same H H3 := same_but (same_but s1 D2.but hw1) D3.but hw1
    refine ⟨(by show 2 ≤ sizeLine; decide), fun l0 hl0 => ?_⟩
    refine ⟨l0, [e1, e2], rfl, SqL.of upd_same, (by show 2 < 64; decide), fun ls p1 pm pw hp1 => ?_⟩
    obtain ⟨lo, hi, rfl, lh, m1, m2⟩ := two_sorted pm pw
    have lob : lo.natAbs < 10 ^ 37 := by rcases m1 with rfl | rfl <;> assumption
    have hib : hi.natAbs < 10 ^ 37 := by rcases m2 with rfl | rfl <;> assumption
    clear m1 m2 pm pw e1b e2b
    have s4 := s3.trans ((same_new (o := .lst [.int e1, .int e2]) hl0).trans (same_new (o := .lst ([lo, hi].map V.int)) hp1))
    have k4 := k3.same ((same_new (o := .lst [.int e1, .int e2]) hl0).trans (same_new (o := .lst ([lo, hi].map V.int)) hp1))
    refine ⟨p1, [.int lo, .int hi], rfl, SqL.of upd_same, rfl, _, _, rfl, _, _, rfl, rfl, ?_⟩
    refine ⟨_, rfl, w1, _, 40, rfl, k4, by decide, by decide, by decide, fun r H5 r0 r1 d5 f5 k5 => ?_⟩
    have s5 : Same H H5 := same_but s4 d5 hw1
    clear k1 k2 k3 k4 k5 D2 D3 d5 f5 s1 s3 s4
    refine ⟨_, _, rfl, rfl, ?_⟩
    obtain ⟨m, hm⟩ : ∃ m : Nat, 1 + r = (m : Int) := ⟨(1 + r).toNat, by omega⟩
    have hm40 : m ≤ 40 ∧ 1 ≤ m := by omega
    dsimp only
    rw [hm]
    refine ⟨_, rfl, _, rfl, by omega, by omega, fun L hL => lc_range (lo := 0) (n := m) (fun i H' => Same H H' ∧ ∃ ts : List Int, ts.length = i ∧ (∀ t ∈ ts, t.natAbs < 1000000000000000000) ∧ H' L = some (.lst (ts.map V.int))) ⟨s5.trans (same_new hL), [], rfl, (fun t ht => absurd ht List.not_mem_nil), upd_same⟩ (fun i H' hi' hP => ?_) (fun G0 hP => ?_)⟩
    · obtain ⟨sH, ts, hlen, hts, hLt⟩ := hP
      refine ⟨rfl, _, rfl, _, rfl, _, _, rfl, rfl, a, ns, 1 + i, refInt (by omega), sH.seq hS, _, rfl, _, _, rfl, rfl, _, rfl, fun p hp H6 s6 k6 => ?_⟩
      refine ⟨p, 0, rfl, k6, by decide, fun t H7 tb D7 => ?_⟩
      have S7 : Same H' H7 := same_but s6 D7.but hp
      refine ⟨_, S7 _ _ hLt, ?_, fun b o e => ?_, ts ++ [t], ?_, fun x hx => ?_, ?_⟩
      · rw [List.length_map]
        exact small1000 (by omega)
      · rw [upd_ne (ne_of_none (s5 _ _ e) hL)]
        exact S7 _ _ (sH _ _ e)
      · rw [List.length_append, hlen]
        rfl
      · rcases List.mem_append.mp hx with hx | hx
        · exact hts x hx
        · rw [List.mem_singleton.mp hx]
          exact tb
      · rw [upd_same, List.map_append]
        rfl
    obtain ⟨s0, ts, hlen, hts0, hL0⟩ := hP
    have hts : Small ts := ⟨by omega, hts0⟩
    clear hL s5 hts0
    refine ⟨_, rfl, L, _, rfl, .inl (SqL.of hL0), fun Hd hHd => ?_⟩
    have sHd := same_new (o := .lst (ts.map V.int)) hHd
    have hL1 := sHd _ _ hL0
    refine ⟨_, rfl, _, rfl, _, rfl, Hd, ts, lo, hi, rfl, upd_same, hts, by omega, lh, fun p b c G1 np nb nc nbp s1 hp hb hc nbc => ?_⟩
    have hL2 := s1 _ _ hL1
    have hHd2 := s1 _ _ (upd_same (a := Hd) (o := .lst (ts.map V.int)) (H := G0))
    have bL : L ≠ b := ne_of_none hL1 nb
    have S1 := s0.trans (sHd.trans s1)
    have bH : H b = none := (s0.trans sHd).free nb
    refine ⟨_, rfl, _, .ty "tuple", _, _, true, rfl, .ty _, .base (.tup hp), kit_ty (by decide +kernel), _, rfl, iteF ⟨_, rfl, p, _, rfl, .inr (SqT.of hp), rfl, _, rfl, iteNS rfl ?_⟩⟩
    refine ⟨_, rfl, _, rfl, .list (ts.map PyData.int), .list (ts.map PyData.int), .lst (SqL.of hHd2) (dp_ints _), .lst (SqL.of hL2) (dp_ints _), PySem.W.shaped_ints _, PySem.W.shaped_ints _, _, rfl, ?_⟩
    rw [eqv_ints]
    refine iteF ?_
    refine ⟨_, rfl, L, rfl, ⟨_, SqL.of hL2⟩, fun D1 hD1 => lc_list (K := K) (a := L) (xs := ts.map V.int) (fun i H' => Same G1 H' ∧ H' D1 = some (.lst ((pick lo hi (fun t => decide (t < 0)) (ts.take i)).map V.int))) ⟨same_new hD1, upd_same⟩ (fun i H' _ hP => SqL.of (hP.1 _ _ hL2)) (fun i x H' hx hP => ?_) (fun Gv1 hP1 => ?_)⟩
    · obtain ⟨s1, hacc⟩ := hP
      rw [List.getElem?_map] at hx
      obtain ⟨n, hi', rfl⟩ := Option.map_eq_some_iff.mp hx
      have hlt := (List.getElem?_eq_some_iff.mp hi').1
      refine ⟨rfl, _, rfl, _, rfl, (by show 2 ≤ sizeLine; decide), fun q1 hq1 => ⟨_, rfl, _, _, rfl, rfl, .inr ⟨_, rfl, q1, _, _, _, rfl, rfl, SqL.of upd_same, pick_at, ?_⟩⟩⟩
      have sq := same_new (o := .lst [.int lo, .int hi]) hq1
      refine ⟨_, sq _ _ hacc, ?_, fun b o e => ?_, ?_⟩
      · rw [List.length_map, pick_len, List.length_take]
        exact small1000 (by omega)
      · rw [upd_ne (ne_of_none e hD1)]
        exact sq _ _ (s1 _ _ e)
      · rw [upd_same, pick_snoc lo hi _ ts i n hi', List.map_append]
        rfl
    obtain ⟨sv1, hb1⟩ := hP1
    rw [List.length_map, List.take_length] at hb1
    refine ⟨D1, _, rfl, SqL.of hb1, fun R1 hR1 => ?_⟩
    have u1 : Same G1 (upd Gv1 R1 (.lst ((pick lo hi (fun t => decide (t < 0)) ts).map V.int).reverse)) := sv1.trans (same_new hR1)
    have r1 : (upd Gv1 R1 (.lst ((pick lo hi (fun t => decide (t < 0)) ts).map V.int).reverse)) R1 = some (.lst ((pick lo hi (fun t => decide (t < 0)) ts).reverse.map V.int)) := by rw [upd_same, List.map_reverse]
    generalize upd Gv1 R1 (.lst ((pick lo hi (fun t => decide (t < 0)) ts).map V.int).reverse) = J1 at u1 r1 ⊢
    refine ⟨_, rfl, L, rfl, ⟨_, SqL.of (u1 _ _ hL2)⟩, fun D2 hD2 => lc_list (K := K) (a := L) (xs := ts.map V.int) (fun i H' => Same J1 H' ∧ H' D2 = some (.lst ((pick lo hi (fun t => decide (t > 0)) (ts.take i)).map V.int))) ⟨same_new hD2, upd_same⟩ (fun i H' _ hP => SqL.of (hP.1 _ _ (u1 _ _ hL2))) (fun i x H' hx hP => ?_) (fun Gv2 hP2 => ?_)⟩
    · obtain ⟨s1, hacc⟩ := hP
      rw [List.getElem?_map] at hx
      obtain ⟨n, hi', rfl⟩ := Option.map_eq_some_iff.mp hx
      have hlt := (List.getElem?_eq_some_iff.mp hi').1
      refine ⟨rfl, _, rfl, _, rfl, (by show 2 ≤ sizeLine; decide), fun q1 hq1 => ⟨_, rfl, _, _, rfl, rfl, .inr ⟨_, rfl, q1, _, _, _, rfl, rfl, SqL.of upd_same, pick_at, ?_⟩⟩⟩
      have sq := same_new (o := .lst [.int lo, .int hi]) hq1
      refine ⟨_, sq _ _ hacc, ?_, fun b o e => ?_, ?_⟩
      · rw [List.length_map, pick_len, List.length_take]
        exact small1000 (by omega)
      · rw [upd_ne (ne_of_none e hD2)]
        exact sq _ _ (s1 _ _ e)
      · rw [upd_same, pick_snoc lo hi _ ts i n hi', List.map_append]
        rfl
    obtain ⟨sv2, hb2⟩ := hP2
    rw [List.length_map, List.take_length] at hb2
    refine ⟨D2, _, rfl, SqL.of hb2, fun R2 hR2 => ?_⟩
    have u2 : Same J1 (upd Gv2 R2 (.lst ((pick lo hi (fun t => decide (t > 0)) ts).map V.int).reverse)) := sv2.trans (same_new hR2)
    have r2 : (upd Gv2 R2 (.lst ((pick lo hi (fun t => decide (t > 0)) ts).map V.int).reverse)) R2 = some (.lst ((pick lo hi (fun t => decide (t > 0)) ts).reverse.map V.int)) := by rw [upd_same, List.map_reverse]
    generalize upd Gv2 R2 (.lst ((pick lo hi (fun t => decide (t > 0)) ts).map V.int).reverse) = J2 at u2 r2 ⊢
    have hL3 := u2 _ _ (u1 _ _ hL2)
    have r1' := u2 _ _ r1
    have uu := u1.trans u2
    refine ⟨_, rfl, _, rfl, _, rfl, L, R1, ts, _, rfl, hL3, r1', hts, (by rw [List.length_reverse, pick_len]), fun M1a m1a => ?_⟩
    refine ⟨_, rfl, _, rfl, _, rfl, L, R2, ts, _, rfl, m1a _ _ hL3, m1a _ _ r2, hts, (by rw [List.length_reverse, pick_len]), fun M2a m2a => ?_⟩
    have mma := m1a.trans m2a
    rw [List.reverse_reverse, List.reverse_reverse]
    refine ⟨_, rfl, (by show 4 ≤ sizeLine; decide), fun ta hta => ?_⟩
    have mta := mma.trans (same_new (o := .tup [.int (dotI ts (lowR lo hi ts)), .ref R1, .int (dotI ts (upR lo hi ts)), .ref R2]) hta)
    refine ⟨_, _, rfl, al4 _ (mta _ _ (uu _ _ hp)) upd_same (Al.ints (by rw [List.length_reverse, pick_len]; omega) (mta _ _ (uu _ _ hb)) (mta _ _ r1')) (Al.ints (by rw [List.length_reverse, pick_len]; omega) (mta _ _ (uu _ _ hc)) (mta _ _ r2)), fun Na na => ?_⟩
    refine ⟨_, rfl, iteF ?_⟩
    have za := mta.trans na
    have Z := uu.trans za
    have bN := Z _ _ hb
    refine ⟨_, rfl, p, _, 1, .ref b, rfl, rfl, SqT.of (Z _ _ hp), a1, .inl ⟨rfl, _, SqL.of bN⟩, b, _, rfl, rfl, bN, ?_⟩
    have nbR1 : R1 ≠ b := fun e => by
      have := sv1 _ _ hb
      rw [e] at hR1
      rw [this] at hR1
      cases hR1
    have nbR2 : R2 ≠ b := fun e => by
      have := sv2 _ _ (u1 _ _ hb)
      rw [e] at hR2
      rw [this] at hR2
      cases hR2
    have cl : ∀ x o, x ≠ b → Na x = some o → (upd Na b (.lst [])) x = some o := fun x o nx hx => by rw [upd_ne nx]; exact hx
    have hL4 := cl _ _ bL (za _ _ hL3)
    have R14 := cl _ _ nbR1 (za _ _ r1')
    have R24 := cl _ _ nbR2 (za _ _ r2)
    have S4 : Same H (upd Na b (.lst [])) := fun x o e => cl _ _ (ne_of_none e bH) ((S1.trans Z) _ _ e)
    generalize upd Na b (.lst []) = H4 at hL4 R14 R24 S4 ⊢
    refine ⟨_, rfl, _, rfl, _, rfl, rfl, rfl, L, ts, lo, hi, rfl, hL4, hts, by omega, lh, fun p2 b2 c2 G5 np2 nb2 nc2 nbp2 s5 hp2 hb2 hc2 _ => ?_⟩
    have hL5 := s5 _ _ hL4
    have R15 := s5 _ _ R14
    have R25 := s5 _ _ R24
    refine ⟨_, rfl, _, rfl, _, rfl, L, R1, ts, _, rfl, hL5, R15, hts, (by rw [List.length_reverse, pick_len]), fun M1b m1b => ?_⟩
    refine ⟨_, rfl, _, rfl, _, rfl, L, R2, ts, _, rfl, m1b _ _ hL5, m1b _ _ R25, hts, (by rw [List.length_reverse, pick_len]), fun M2b m2b => ?_⟩
    have mmb := m1b.trans m2b
    rw [List.reverse_reverse, List.reverse_reverse]
    refine ⟨_, rfl, (by show 4 ≤ sizeLine; decide), fun tb htb => ?_⟩
    have mtb := mmb.trans (same_new (o := .tup [.int (dotI ts (lowR lo hi ts)), .ref R1, .int (dotI ts (upR lo hi ts)), .ref R2]) htb)
    refine ⟨_, _, rfl, al4 _ (mtb _ _ hp2) upd_same (Al.ints (by rw [List.length_reverse, pick_len]; omega) (mtb _ _ hb2) (mtb _ _ R15)) (Al.ints (by rw [List.length_reverse, pick_len]; omega) (mtb _ _ hc2) (mtb _ _ R25)), fun Nb nb => ?_⟩
    refine ⟨_, rfl, iteF ?_⟩
    have zb := mtb.trans nb
    have hL6 := zb _ _ hL5
    have hp6 := zb _ _ hp2
    have S6 := S4.trans (s5.trans zb)
    refine ⟨3, rfl, by decide, by decide, for_range (n := 3) (fun i σ H' => Same Nb H' ∧ ∃ y1 y5 y12 : Option V, σ = [some (.ref a), y1, some (.int lo), some (.int hi), some (.int (m : Nat)), y5, some (.ref L), some (.ref Hd), some (.ref p), some (.ref R1), some (.ref R2), some (.ref p2), y12, none, none]) ⟨Same.refl _, _, _, _, rfl⟩ (fun i σ H' hi' hP => ?_) (fun σ H' hP => ?_)⟩
    · obtain ⟨sT, y1, y5, y12, rfl⟩ := hP
      refine ⟨_, rfl, _, rfl, _, _, rfl, rfl, a, ns, 41 + i, refInt (by omega), (S6.trans sT).seq hS, _, rfl, _, _, rfl, rfl, _, rfl, fun pw hpw H8 s8 k8 => ?_⟩
      have mb : (hi - lo + 1).natAbs < 2 ^ 9000 := by
        have : (hi - lo + 1).natAbs < 2 ^ 200 := by
          have e : (10 : Nat) ^ 37 < 2 ^ 190 := by decide
          have e2 : (2 : Nat) ^ 200 = 2 ^ 190 * 1024 := by decide
          omega
        exact up this (by decide)
      have nDw : ∀ Dr, H8 Dr = none → Dr ≠ pw := fun Dr h e => by
        obtain ⟨_, _, _, z, _⟩ := k8
        rw [← e, h] at z
        cases z
      refine ⟨_, rfl, _, rfl, by omega, by omega, fun Dr hDr => lc_range (lo := 0) (n := m) (fun j G => Same H' G ∧ WellAt G pw j ∧ ∃ rs : List Int, rs.length = j ∧ (∀ x ∈ rs, lo ≤ x ∧ x ≤ hi) ∧ G Dr = some (.lst (rs.map V.int))) ⟨s8.trans (same_new hDr), k8.same (same_new hDr), [], rfl, (fun t ht => absurd ht List.not_mem_nil), upd_same⟩ (fun j H9 hj hP => ?_) (fun H9 hP => ?_)⟩
      · obtain ⟨s9, k9, rs, hrl, hrs, hDr9⟩ := hP
        have nD := nDw Dr hDr
        refine ⟨rfl, _, rfl, _, rfl, _, rfl, _, rfl, _, _, rfl, rfl, _, _, rfl, rfl, pw, _, _, rfl, k9, by omega, by omega, mb, fun r H10 r0 r1 d10 f10 k10 => ?_⟩
        refine ⟨_, _, rfl, rfl, _, d10 _ _ nD hDr9, ?_, fun x o e => ?_, ?_, rs ++ [lo + r], ?_, fun x hx => ?_, ?_⟩
        · rw [List.length_map]
          exact small1000 (by omega)
        · have nx : x ≠ Dr := ne_of_none (s8 _ _ e) hDr
          rw [upd_ne nx]
          exact d10 _ _ (ne_of_none e hpw) (s9 _ _ e)
        · exact (k10.but SameBut.upd nD.symm).mono (by omega)
        · rw [List.length_append, hrl]
          rfl
        · rcases List.mem_append.mp hx with hx | hx
          · exact hrs x hx
          · rw [List.mem_singleton.mp hx]
            omega
        · rw [upd_same, List.map_append]
          rfl
      · obtain ⟨s9, _, rs, hrl, hrs, hDr9⟩ := hP
        have hL9 := s9 _ _ (sT _ _ hL6)
        have hp9 := s9 _ _ (sT _ _ hp6)
        have b1 := least_le lo hi ts rs.reverse (by rw [List.length_reverse]; omega) fun y hy => hrs y (List.mem_reverse.mp hy)
        have b2 := le_most lo hi ts rs.reverse (by rw [List.length_reverse]; omega) fun y hy => hrs y (List.mem_reverse.mp hy)
        refine ⟨_, rfl, p2, _, 0, _, rfl, rfl, SqT.of hp9, a0, _, rfl, _, rfl, L, Dr, ts, rs, rfl, hL9, hDr9, hts, by omega, fun H10 s10 => ?_⟩
        refine ⟨_, _, rfl, rfl, _, rfl, ?_⟩
        rw [decide_eq_true b1]
        refine iteT ⟨_, rfl, p2, _, 2, _, rfl, rfl, SqT.of (s10 _ _ hp9), a2, _, _, rfl, rfl, _, rfl, ?_⟩
        rw [decide_eq_true b2]
        exact iteF ⟨sT.trans (s9.trans s10), _, _, _, rfl⟩
    · obtain ⟨sT, y1, y5, y12, rfl⟩ := hP
      exact q _
end
end E1

namespace E1
open PySem PySem.Spec PyProof.Rows L2

theorem Vals.rev : ∀ {xs : List V} {us : List Value}, Vals xs us → Vals xs.reverse us.reverse
  | _, _, .nil => .nil
  | _, _, .cons r t => by
    rw [List.reverse_cons, List.reverse_cons]
    exact Vals.append (Vals.rev t) (.cons r .nil)
section
variable {P : Program} {w : World} {K : PySem.W.Frag} {mg : Str → Option Value} {base : Heap} {x : Str} {st : Stmt} {f : Addr} {fd : FuncData} {ps ks : List Str} {k n : Nat} {sp : Sp}
/-- a def without defaults: its arguments by keywords alone or behind others -/
theorem Fun.kbn {qual : Str} (F : Fun K x qual st f fd) {g : List Value → List Value → List Value} {gV : List V → List V → List V} (hrel : ∀ {vs : List V} {us : List Value} {zs : List V} {ws : List Value}, Vals vs us → Vals zs ws → Vals (gV vs zs) (g us ws))
    (h : ∀ (kV doc pm : Value) (an : Option Addr) (cdv ct : Value) (us ws : List Value), us.length = n → ws.length = ks.length → bindArgs (PySem.W.fnOf x qual (defArgs st) (defBody st) (defScope st) .none kV doc pm an cdv ct) ⟨us, ks.zip ws⟩ = pure (ps.zip (g us ws))) : KBn K fd ps n ks g gV := by
  rcases F.ex with ⟨_, _, v1, v2, v3, v4, v5, v6, _, same, _, _⟩
  subst same
  exact ⟨fun s us ws _ l1 l2 => .of_eq (h v1 v2 v3 v4 v5 v6 us ws l1 l2), hrel⟩
/-- a def with defaults, all arguments given -/
theorem FunD.kbn {qual : Str} {params : Arguments} {body : List Stmt} {scope : Scope} {dvs : List V} {kws : List (Str × V)} (F : FunD K x qual params body scope dvs kws f fd) (hd : dvs ≠ []) {g : List Value → List Value → List Value} {gV : List V → List V → List V} (hrel : ∀ {vs : List V} {us : List Value} {zs : List V} {ws : List Value}, Vals vs us → Vals zs ws → Vals (gV vs zs) (g us ws))
    (h : ∀ (T : Addr) (kV doc pm : Value) (an : Option Addr) (cdv ct : Value) (us ws its : List Value), us.length = n → ws.length = ks.length → its.length = dvs.length → ∃ k, bindArgs (PySem.W.fnOf x qual params body scope (.ref T) kV doc pm an cdv ct) ⟨us, ks.zip ws⟩ = seqItems? (.ref T) >>= k ∧ k (some its.toArray) = pure (ps.zip (g us ws))) : KBn K fd ps n ks g gV := by
  rcases F.ex with ⟨_, _, _, v1, v2, v3, v4, v5, v6, _, same, _, _, bare | given, _⟩
  · exact absurd bare.1 hd
  · rcases given with ⟨_, T, _, its, _, dv, at_, it, rel⟩
    subst same dv
    refine ⟨fun s us ws inn l1 l2 => BindsTo.of_looks fun M => ?_, hrel⟩
    rcases h T v1 v2 v3 v4 v5 v6 us ws its l1 l2 rel.length.symm with ⟨go, b1, b2⟩
    rw [b1]
    exact looks_items inn at_ it (.of_pure b2)
end
theorem all_mk {l : PySem.W.OpenLaw} {w : World} {K : PySem.W.Frag} {h : Heap} {mg : Str → Option Value} {fa f_is_whole f_is_numbers f_dot f_check_taps f_extremes f__law_cell_at f__law_well f__law_draw f__law_same f__law_tap f__law_sum f__law_end f_law : Addr} (X : K.In h) (G : h.Ns mainGlobals mg) (hfa : mg "law" = some (.ref fa))
    {od_is_whole an_is_whole : Option Addr} {sl_is_whole : Array (Option Value)} {oc_is_whole kV_is_whole dc_is_whole pm_is_whole cd_is_whole ct_is_whole : Value}
    (a_is_whole : PySem.W.nsIn K mainGlobals "is_whole" = some (some (.ref f_is_whole)))
    (l_is_whole : K.lookup f_is_whole = some ⟨oc_is_whole, od_is_whole, .func (PySem.W.fnOf "is_whole" "is_whole" (defArgs s_is_whole) (defBody s_is_whole) (defScope s_is_whole) .none kV_is_whole dc_is_whole pm_is_whole an_is_whole cd_is_whole ct_is_whole), sl_is_whole⟩)
    (c_is_whole : PySem.W.codeIn K cd_is_whole "is_whole" = true)
    (k_is_whole : PySem.W.keepIn K (.ref f_is_whole) = true)
    {od_is_numbers an_is_numbers : Option Addr} {sl_is_numbers : Array (Option Value)} {oc_is_numbers kV_is_numbers dc_is_numbers pm_is_numbers cd_is_numbers ct_is_numbers : Value}
    (a_is_numbers : PySem.W.nsIn K mainGlobals "is_numbers" = some (some (.ref f_is_numbers)))
    (l_is_numbers : K.lookup f_is_numbers = some ⟨oc_is_numbers, od_is_numbers, .func (PySem.W.fnOf "is_numbers" "is_numbers" (defArgs s_is_numbers) (defBody s_is_numbers) (defScope s_is_numbers) .none kV_is_numbers dc_is_numbers pm_is_numbers an_is_numbers cd_is_numbers ct_is_numbers), sl_is_numbers⟩)
    (c_is_numbers : PySem.W.codeIn K cd_is_numbers "is_numbers" = true)
    (k_is_numbers : PySem.W.keepIn K (.ref f_is_numbers) = true)
    {od_dot an_dot : Option Addr} {sl_dot : Array (Option Value)} {oc_dot kV_dot dc_dot pm_dot cd_dot ct_dot : Value}
    (a_dot : PySem.W.nsIn K mainGlobals "dot" = some (some (.ref f_dot)))
    (l_dot : K.lookup f_dot = some ⟨oc_dot, od_dot, .func (PySem.W.fnOf "dot" "dot" (defArgs s_dot) (defBody s_dot) (defScope s_dot) .none kV_dot dc_dot pm_dot an_dot cd_dot ct_dot), sl_dot⟩)
    (c_dot : PySem.W.codeIn K cd_dot "dot" = true)
    (k_dot : PySem.W.keepIn K (.ref f_dot) = true)
    {od_check_taps an_check_taps : Option Addr} {sl_check_taps : Array (Option Value)} {oc_check_taps kV_check_taps dc_check_taps pm_check_taps cd_check_taps ct_check_taps : Value}
    (a_check_taps : PySem.W.nsIn K mainGlobals "check_taps" = some (some (.ref f_check_taps)))
    (l_check_taps : K.lookup f_check_taps = some ⟨oc_check_taps, od_check_taps, .func (PySem.W.fnOf "check_taps" "check_taps" (defArgs s_check_taps) (defBody s_check_taps) (defScope s_check_taps) .none kV_check_taps dc_check_taps pm_check_taps an_check_taps cd_check_taps ct_check_taps), sl_check_taps⟩)
    (c_check_taps : PySem.W.codeIn K cd_check_taps "check_taps" = true)
    (k_check_taps : PySem.W.keepIn K (.ref f_check_taps) = true)
    {od_extremes an_extremes : Option Addr} {sl_extremes : Array (Option Value)} {oc_extremes kV_extremes dc_extremes pm_extremes cd_extremes ct_extremes : Value}
    (a_extremes : PySem.W.nsIn K mainGlobals "extremes" = some (some (.ref f_extremes)))
    (l_extremes : K.lookup f_extremes = some ⟨oc_extremes, od_extremes, .func (PySem.W.fnOf "extremes" "extremes" (defArgs s_extremes) (defBody s_extremes) (defScope s_extremes) .none kV_extremes dc_extremes pm_extremes an_extremes cd_extremes ct_extremes), sl_extremes⟩)
    (c_extremes : PySem.W.codeIn K cd_extremes "extremes" = true)
    (k_extremes : PySem.W.keepIn K (.ref f_extremes) = true)
    {od__law_cell_at an__law_cell_at : Option Addr} {sl__law_cell_at : Array (Option Value)} {oc__law_cell_at kV__law_cell_at dc__law_cell_at pm__law_cell_at cd__law_cell_at ct__law_cell_at : Value}
    (a__law_cell_at : PySem.W.nsIn K mainGlobals "_law_cell_at" = some (some (.ref f__law_cell_at)))
    (l__law_cell_at : K.lookup f__law_cell_at = some ⟨oc__law_cell_at, od__law_cell_at, .func (PySem.W.fnOf "_law_cell_at" "_law_cell_at" (defArgs s__law_cell_at) (defBody s__law_cell_at) (defScope s__law_cell_at) .none kV__law_cell_at dc__law_cell_at pm__law_cell_at an__law_cell_at cd__law_cell_at ct__law_cell_at), sl__law_cell_at⟩)
    (c__law_cell_at : PySem.W.codeIn K cd__law_cell_at "_law_cell_at" = true)
    (k__law_cell_at : PySem.W.keepIn K (.ref f__law_cell_at) = true)
    {od__law_well an__law_well : Option Addr} {sl__law_well : Array (Option Value)} {oc__law_well kV__law_well dc__law_well pm__law_well cd__law_well ct__law_well : Value}
    (a__law_well : PySem.W.nsIn K mainGlobals "_law_well" = some (some (.ref f__law_well)))
    (l__law_well : K.lookup f__law_well = some ⟨oc__law_well, od__law_well, .func (PySem.W.fnOf "_law_well" "_law_well" (defArgs s__law_well) (defBody s__law_well) (defScope s__law_well) .none kV__law_well dc__law_well pm__law_well an__law_well cd__law_well ct__law_well), sl__law_well⟩)
    (c__law_well : PySem.W.codeIn K cd__law_well "_law_well" = true)
    (k__law_well : PySem.W.keepIn K (.ref f__law_well) = true)
    {od__law_draw an__law_draw : Option Addr} {sl__law_draw : Array (Option Value)} {oc__law_draw kV__law_draw dc__law_draw pm__law_draw cd__law_draw ct__law_draw : Value}
    (a__law_draw : PySem.W.nsIn K mainGlobals "_law_draw" = some (some (.ref f__law_draw)))
    (l__law_draw : K.lookup f__law_draw = some ⟨oc__law_draw, od__law_draw, .func (PySem.W.fnOf "_law_draw" "_law_draw" (defArgs s__law_draw) (defBody s__law_draw) (defScope s__law_draw) .none kV__law_draw dc__law_draw pm__law_draw an__law_draw cd__law_draw ct__law_draw), sl__law_draw⟩)
    (c__law_draw : PySem.W.codeIn K cd__law_draw "_law_draw" = true)
    (k__law_draw : PySem.W.keepIn K (.ref f__law_draw) = true)
    {od__law_same an__law_same : Option Addr} {sl__law_same : Array (Option Value)} {oc__law_same kV__law_same dc__law_same pm__law_same cd__law_same ct__law_same : Value}
    (a__law_same : PySem.W.nsIn K mainGlobals "_law_same" = some (some (.ref f__law_same)))
    (l__law_same : K.lookup f__law_same = some ⟨oc__law_same, od__law_same, .func (PySem.W.fnOf "_law_same" "_law_same" (defArgs s__law_same) (defBody s__law_same) (defScope s__law_same) .none kV__law_same dc__law_same pm__law_same an__law_same cd__law_same ct__law_same), sl__law_same⟩)
    (c__law_same : PySem.W.codeIn K cd__law_same "_law_same" = true)
    (k__law_same : PySem.W.keepIn K (.ref f__law_same) = true)
    {od__law_tap an__law_tap : Option Addr} {sl__law_tap : Array (Option Value)} {oc__law_tap kV__law_tap dc__law_tap pm__law_tap cd__law_tap ct__law_tap : Value}
    (a__law_tap : PySem.W.nsIn K mainGlobals "_law_tap" = some (some (.ref f__law_tap)))
    (l__law_tap : K.lookup f__law_tap = some ⟨oc__law_tap, od__law_tap, .func (PySem.W.fnOf "_law_tap" "_law_tap" (defArgs s__law_tap) (defBody s__law_tap) (defScope s__law_tap) .none kV__law_tap dc__law_tap pm__law_tap an__law_tap cd__law_tap ct__law_tap), sl__law_tap⟩)
    (c__law_tap : PySem.W.codeIn K cd__law_tap "_law_tap" = true)
    (k__law_tap : PySem.W.keepIn K (.ref f__law_tap) = true)
    {od__law_sum an__law_sum : Option Addr} {sl__law_sum : Array (Option Value)} {oc__law_sum kV__law_sum dc__law_sum pm__law_sum cd__law_sum ct__law_sum : Value}
    (a__law_sum : PySem.W.nsIn K mainGlobals "_law_sum" = some (some (.ref f__law_sum)))
    (l__law_sum : K.lookup f__law_sum = some ⟨oc__law_sum, od__law_sum, .func (PySem.W.fnOf "_law_sum" "_law_sum" (defArgs s__law_sum) (defBody s__law_sum) (defScope s__law_sum) .none kV__law_sum dc__law_sum pm__law_sum an__law_sum cd__law_sum ct__law_sum), sl__law_sum⟩)
    (c__law_sum : PySem.W.codeIn K cd__law_sum "_law_sum" = true)
    (k__law_sum : PySem.W.keepIn K (.ref f__law_sum) = true)
    {od__law_end an__law_end : Option Addr} {sl__law_end : Array (Option Value)} {oc__law_end kV__law_end dc__law_end pm__law_end cd__law_end ct__law_end : Value}
    (a__law_end : PySem.W.nsIn K mainGlobals "_law_end" = some (some (.ref f__law_end)))
    (l__law_end : K.lookup f__law_end = some ⟨oc__law_end, od__law_end, .func (PySem.W.fnOf "_law_end" "_law_end" (defArgs s__law_end) (defBody s__law_end) (defScope s__law_end) .none kV__law_end dc__law_end pm__law_end an__law_end cd__law_end ct__law_end), sl__law_end⟩)
    (c__law_end : PySem.W.codeIn K cd__law_end "_law_end" = true)
    (k__law_end : PySem.W.keepIn K (.ref f__law_end) = true)
    {od_law an_law : Option Addr} {sl_law : Array (Option Value)} {oc_law kV_law dc_law pm_law cd_law ct_law : Value}
    (a_law : PySem.W.nsIn K mainGlobals "law" = some (some (.ref f_law)))
    (l_law : K.lookup f_law = some ⟨oc_law, od_law, .func (PySem.W.fnOf "law" "law" (defArgs s_law) (defBody s_law) (defScope s_law) .none kV_law dc_law pm_law an_law cd_law ct_law), sl_law⟩)
    (c_law : PySem.W.codeIn K cd_law "law" = true)
    (k_law : PySem.W.keepIn K (.ref f_law) = true)
    {tk_MOST_TAPS : Tok}
    (g_MOST_TAPS : PySem.W.nsIn K mainGlobals "MOST_TAPS" = some (some (.int 40 tk_MOST_TAPS)))
    {tk_NUMBER_END : Tok}
    (g_NUMBER_END : PySem.W.nsIn K mainGlobals "NUMBER_END" = some (some (.int 1000000000000000000 tk_NUMBER_END)))
    (z_isinstance : PySem.W.nsIn K mainGlobals "isinstance" = some none)
    (z_int : PySem.W.nsIn K mainGlobals "int" = some none)
    (z_bool : PySem.W.nsIn K mainGlobals "bool" = some none)
    (z_abs : PySem.W.nsIn K mainGlobals "abs" = some none)
    (z_list : PySem.W.nsIn K mainGlobals "list" = some none)
    (z_len : PySem.W.nsIn K mainGlobals "len" = some none)
    (z_all : PySem.W.nsIn K mainGlobals "all" = some none)
    (z_sum : PySem.W.nsIn K mainGlobals "sum" = some none)
    (z_zip : PySem.W.nsIn K mainGlobals "zip" = some none)
    (z_tuple : PySem.W.nsIn K mainGlobals "tuple" = some none)
    (z_str : PySem.W.nsIn K mainGlobals "str" = some none)
    (z_enumerate : PySem.W.nsIn K mainGlobals "enumerate" = some none)
    (z_range : PySem.W.nsIn K mainGlobals "range" = some none)
    (z_sorted : PySem.W.nsIn K mainGlobals "sorted" = some none) :
    ∃ fd : FuncData, (∀ (s : Shared) (v : Value), BindsTo s fd ⟨[v], []⟩ [("_law_script", v)]) ∧ ∀ base : Heap, K.In base → base.Ns mainGlobals mg → FnOk l.prog w K mg base CX0 5 fa fd ["_law_script"] (spLaw K) := by
  have F_is_whole := fun_mk (st := s_is_whole) l_is_whole c_is_whole k_is_whole
  have b_is_whole := F_is_whole.binds (ps := ["thing"]) fun _ _ _ _ _ _ us hl => match us, hl with | [_], _ => rfl
  have F_is_numbers := fun_mk (st := s_is_numbers) l_is_numbers c_is_numbers k_is_numbers
  have b_is_numbers := F_is_numbers.binds (ps := ["thing", "least", "most"]) fun _ _ _ _ _ _ us hl => match us, hl with | [_, _, _], _ => rfl
  have F_dot := fun_mk (st := s_dot) l_dot c_dot k_dot
  have b_dot := F_dot.binds (ps := ["numbers", "others"]) fun _ _ _ _ _ _ us hl => match us, hl with | [_, _], _ => rfl
  have F_check_taps := fun_mk (st := s_check_taps) l_check_taps c_check_taps k_check_taps
  have b_check_taps := F_check_taps.binds (ps := ["taps"]) fun _ _ _ _ _ _ us hl => match us, hl with | [_], _ => rfl
  have F_extremes := fun_mk (st := s_extremes) l_extremes c_extremes k_extremes
  have b_extremes := F_extremes.binds (ps := ["taps", "low", "high"]) fun _ _ _ _ _ _ us hl => match us, hl with | [_, _, _], _ => rfl
  have F__law_cell_at := fun_mk (st := s__law_cell_at) l__law_cell_at c__law_cell_at k__law_cell_at
  have b__law_cell_at := F__law_cell_at.binds (ps := ["_law_script", "_law_k"]) fun _ _ _ _ _ _ us hl => match us, hl with | [_, _], _ => rfl
  have F__law_well := fun_mk (st := s__law_well) l__law_well c__law_well k__law_well
  have b__law_well := F__law_well.binds (ps := ["_law_cell"]) fun _ _ _ _ _ _ us hl => match us, hl with | [_], _ => rfl
  have F__law_draw := fun_mk (st := s__law_draw) l__law_draw c__law_draw k__law_draw
  have b__law_draw := F__law_draw.binds (ps := ["_law_well_here", "_law_many"]) fun _ _ _ _ _ _ us hl => match us, hl with | [_, _], _ => rfl
  have F__law_same := fun_mk (st := s__law_same) l__law_same c__law_same k__law_same
  have b__law_same := F__law_same.binds (ps := ["_law_found", "_law_due"]) fun _ _ _ _ _ _ us hl => match us, hl with | [_, _], _ => rfl
  have F__law_tap := fun_mk (st := s__law_tap) l__law_tap c__law_tap k__law_tap
  have b__law_tap := F__law_tap.binds (ps := ["_law_well_here"]) fun _ _ _ _ _ _ us hl => match us, hl with | [_], _ => rfl
  have F__law_sum := fun_mk (st := s__law_sum) l__law_sum c__law_sum k__law_sum
  have b__law_sum := F__law_sum.binds (ps := ["_law_tap_list", "_law_row"]) fun _ _ _ _ _ _ us hl => match us, hl with | [_, _], _ => rfl
  have F__law_end := fun_mk (st := s__law_end) l__law_end c__law_end k__law_end
  have b__law_end := F__law_end.binds (ps := ["_law_well_here"]) fun _ _ _ _ _ _ us hl => match us, hl with | [_], _ => rfl
  have F_law := fun_mk (st := s_law) l_law c_law k_law
  have b_law := F_law.binds (ps := ["_law_script"]) fun _ _ _ _ _ _ us hl => match us, hl with | [_], _ => rfl
  have gM := PySem.W.mg_of X G g_MOST_TAPS
  have gE := PySem.W.mg_of X G g_NUMBER_END
  have z : Zs mg := ⟨PySem.W.mg_none_of X G z_isinstance, PySem.W.mg_none_of X G z_int, PySem.W.mg_none_of X G z_bool, PySem.W.mg_none_of X G z_abs, PySem.W.mg_none_of X G z_list, PySem.W.mg_none_of X G z_len, PySem.W.mg_none_of X G z_all, PySem.W.mg_none_of X G z_sum, PySem.W.mg_none_of X G z_zip, PySem.W.mg_none_of X G z_tuple, PySem.W.mg_none_of X G z_str, PySem.W.mg_none_of X G z_enumerate, PySem.W.mg_none_of X G z_range, PySem.W.mg_none_of X G z_sorted⟩
  have e := hfa.symm.trans (PySem.W.mg_of X G a_law)
  cases e
  refine ⟨PySem.W.fnOf "law" "law" (defArgs s_law) (defBody s_law) (defScope s_law) .none kV_law dc_law pm_law an_law cd_law ct_law, fun s v => .of_eq rfl, fun base _ _ => ?_⟩
  have c_is_whole : Cal l.prog w K mg base 1 "is_whole" ["thing"] _ := ⟨f_is_whole, _, PySem.W.mg_of X G a_is_whole, k_is_whole, b_is_whole, ok_is_whole (k := 0) F_is_whole z⟩
  have c_is_numbers : Cal l.prog w K mg base 2 "is_numbers" ["thing", "least", "most"] _ := ⟨f_is_numbers, _, PySem.W.mg_of X G a_is_numbers, k_is_numbers, b_is_numbers, ok_is_numbers F_is_numbers z _ gE c_is_whole⟩
  have c_dot : Cal l.prog w K mg base 1 "dot" ["numbers", "others"] _ := ⟨f_dot, _, PySem.W.mg_of X G a_dot, k_dot, b_dot, ok_dot (k := 0) F_dot z⟩
  have c_check_taps : Cal l.prog w K mg base 3 "check_taps" ["taps"] _ := ⟨f_check_taps, _, PySem.W.mg_of X G a_check_taps, k_check_taps, b_check_taps, ok_check_taps F_check_taps _ gM c_is_numbers⟩
  have c_extremes : Cal l.prog w K mg base 4 "extremes" ["taps", "low", "high"] _ := ⟨f_extremes, _, PySem.W.mg_of X G a_extremes, k_extremes, b_extremes, ok_extremes F_extremes z c_is_whole c_check_taps c_dot⟩
  have kb_ext := Fun.kbn (ps := ["taps", "low", "high"]) (ks := ["high", "low", "taps"]) (n := 0) (g := fun us ws => us ++ ws.reverse) (gV := fun vs zs => vs ++ zs.reverse) F_extremes (fun a b => Vals.append a (Vals.rev b)) (fun _ _ _ _ _ _ us ws h1 h2 => match us, ws, h1, h2 with | [], [_, _, _], _, _ => rfl)
  have ck_ext : CalK l.prog w K mg base 4 "extremes" ["taps", "low", "high"] 0 ["high", "low", "taps"] (fun vs zs => vs ++ zs.reverse) spExt := ⟨f_extremes, _, _, PySem.W.mg_of X G a_extremes, k_extremes, kb_ext, ok_extremes F_extremes z c_is_whole c_check_taps c_dot⟩
  have c__law_cell_at : Cal l.prog w K mg base 1 "_law_cell_at" ["_law_script", "_law_k"] _ := ⟨f__law_cell_at, _, PySem.W.mg_of X G a__law_cell_at, k__law_cell_at, b__law_cell_at, ok_cell (k := 0) F__law_cell_at z.len⟩
  have c__law_well : Cal l.prog w K mg base 1 "_law_well" ["_law_cell"] _ := ⟨f__law_well, _, PySem.W.mg_of X G a__law_well, k__law_well, b__law_well, ok_well (k := 0) F__law_well z.int⟩
  have c__law_draw : Cal l.prog w K mg base 1 "_law_draw" ["_law_well_here", "_law_many"] _ := ⟨f__law_draw, _, PySem.W.mg_of X G a__law_draw, k__law_draw, b__law_draw, ok_draw (k := 0) F__law_draw⟩
  have c__law_tap : Cal l.prog w K mg base 2 "_law_tap" ["_law_well_here"] _ := ⟨f__law_tap, _, PySem.W.mg_of X G a__law_tap, k__law_tap, b__law_tap, ok__law_tap F__law_tap c__law_draw⟩
  have c__law_sum : Cal l.prog w K mg base 1 "_law_sum" ["_law_tap_list", "_law_row"] _ := ⟨f__law_sum, _, PySem.W.mg_of X G a__law_sum, k__law_sum, b__law_sum, ok__law_sum (k := 0) F__law_sum z⟩
  have c__law_end : Cal l.prog w K mg base 2 "_law_end" ["_law_well_here"] _ := ⟨f__law_end, _, PySem.W.mg_of X G a__law_end, k__law_end, b__law_end, ok__law_end F__law_end z c__law_draw⟩
  have c_same0 : Cal l.prog w K mg base 1 "_law_same" ["_law_found", "_law_due"] (spSameN 0) := ⟨f__law_same, _, PySem.W.mg_of X G a__law_same, k__law_same, b__law_same, ok_sameN (k := 0) F__law_same⟩
  have c_same1 : Cal l.prog w K mg base 2 "_law_same" ["_law_found", "_law_due"] (spSameN 1) := ⟨f__law_same, _, PySem.W.mg_of X G a__law_same, k__law_same, b__law_same, ok_same F__law_same z c_same0⟩
  have c_same2 : Cal l.prog w K mg base 3 "_law_same" ["_law_found", "_law_due"] (spSameN 2) := ⟨f__law_same, _, PySem.W.mg_of X G a__law_same, k__law_same, b__law_same, ok_same F__law_same z c_same1⟩
  have c_same3 : Cal l.prog w K mg base 4 "_law_same" ["_law_found", "_law_due"] (spSameN 3) := ⟨f__law_same, _, PySem.W.mg_of X G a__law_same, k__law_same, b__law_same, ok_same F__law_same z c_same2⟩
  exact ok_law F_law z c__law_cell_at c__law_well c__law_draw c__law_tap c__law_end c__law_sum c_same3 c_extremes ck_ext

end E1

open PySem PySem.W PyProof.Rows
set_option maxRecDepth 100000 in
set_option maxHeartbeats 0 in
theorem PySem.Challenge.cw_echobound_k81_how_far_sums_go_holds : PySem.Challenge.rw_echobound_k81_how_far_sums_go.Holds := by
  w_on; o_law; k_head; (case hw => w_witness2)
  k_fill
  refine L2.walk_of (l := PySem.Challenge.rw_echobound_k81_how_far_sums_go) (n := 63) (k := 5) (x := "_law_script") (CX := fun _ => L2.CX0) (sp := fun w => E1.spLaw _) rfl (by decide) rfl ⟨rfl, by decide, by decide⟩ (fun w h Y => PySem.W.kIn_of Y) ?F (fun _ _ a ns hl _ hS => ⟨a, ns, rfl, hS, hl, fun _ => rfl⟩) (fun _ _ _ _ _ h => h)
  case F =>
    intro w mg fa h KX G hmg
    refine' E1.all_mk KX G hmg ?a_is_whole ?l_is_whole ?c_is_whole ?k_is_whole ?a_is_numbers ?l_is_numbers ?c_is_numbers ?k_is_numbers ?a_dot ?l_dot ?c_dot ?k_dot ?a_check_taps ?l_check_taps ?c_check_taps ?k_check_taps ?a_extremes ?l_extremes ?c_extremes ?k_extremes ?a__law_cell_at ?l__law_cell_at ?c__law_cell_at ?k__law_cell_at ?a__law_well ?l__law_well ?c__law_well ?k__law_well ?a__law_draw ?l__law_draw ?c__law_draw ?k__law_draw ?a__law_same ?l__law_same ?c__law_same ?k__law_same ?a__law_tap ?l__law_tap ?c__law_tap ?k__law_tap ?a__law_sum ?l__law_sum ?c__law_sum ?k__law_sum ?a__law_end ?l__law_end ?c__law_end ?k__law_end ?a_law ?l_law ?c_law ?k_law ?g_MOST_TAPS ?g_NUMBER_END ?z_isinstance ?z_int ?z_bool ?z_abs ?z_list ?z_len ?z_all ?z_sum ?z_zip ?z_tuple ?z_str ?z_enumerate ?z_range ?z_sorted
    (case a_is_whole => k_is)
    (case l_is_whole => k_is)
    (case c_is_whole => k_is)
    (case k_is_whole => k_is)
    (case a_is_numbers => k_is)
    (case l_is_numbers => k_is)
    (case c_is_numbers => k_is)
    (case k_is_numbers => k_is)
    (case a_dot => k_is)
    (case l_dot => k_is)
    (case c_dot => k_is)
    (case k_dot => k_is)
    (case a_check_taps => k_is)
    (case l_check_taps => k_is)
    (case c_check_taps => k_is)
    (case k_check_taps => k_is)
    (case a_extremes => k_is)
    (case l_extremes => k_is)
    (case c_extremes => k_is)
    (case k_extremes => k_is)
    (case a__law_cell_at => k_is)
    (case l__law_cell_at => k_is)
    (case c__law_cell_at => k_is)
    (case k__law_cell_at => k_is)
    (case a__law_well => k_is)
    (case l__law_well => k_is)
    (case c__law_well => k_is)
    (case k__law_well => k_is)
    (case a__law_draw => k_is)
    (case l__law_draw => k_is)
    (case c__law_draw => k_is)
    (case k__law_draw => k_is)
    (case a__law_same => k_is)
    (case l__law_same => k_is)
    (case c__law_same => k_is)
    (case k__law_same => k_is)
    (case a__law_tap => k_is)
    (case l__law_tap => k_is)
    (case c__law_tap => k_is)
    (case k__law_tap => k_is)
    (case a__law_sum => k_is)
    (case l__law_sum => k_is)
    (case c__law_sum => k_is)
    (case k__law_sum => k_is)
    (case a__law_end => k_is)
    (case l__law_end => k_is)
    (case c__law_end => k_is)
    (case k__law_end => k_is)
    (case a_law => k_is)
    (case l_law => k_is)
    (case c_law => k_is)
    (case k_law => k_is)
    (case g_MOST_TAPS => k_is)
    (case g_NUMBER_END => k_is)
    (case z_isinstance => k_is)
    (case z_int => k_is)
    (case z_bool => k_is)
    (case z_abs => k_is)
    (case z_list => k_is)
    (case z_len => k_is)
    (case z_all => k_is)
    (case z_sum => k_is)
    (case z_zip => k_is)
    (case z_tuple => k_is)
    (case z_str => k_is)
    (case z_enumerate => k_is)
    (case z_range => k_is)
    (case z_sorted => k_is)
