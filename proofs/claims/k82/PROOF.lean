import PyProof.Rows.All
import Wide.All
import OpenK.AllK
import Wide.FinOn
import HandS.Codes
import HandS.ForMost
import HandS.Wide
import HandS.Zip
import HandS.IsInst
import HandS.Defaults
import HandS.Style
import HandS.Walk
import HandS.More
import OpenK.KEqL
import HandS.Flow
import HandS.TryOnly
import HandS.CallLocal
import HandS.WideBits
import KE.BitLaws
import KE.RegKSuper
import KE.RegKIsAll
import KE.RegKTryMore
import PySem.Challenge.RW_echobound_k82_the_room_that_sums_need
set_option Elab.async false
set_option linter.all false
set_option maxRecDepth 100000
set_option maxHeartbeats 4000000
namespace E1
open PySem PySem.Spec PyProof.Rows L2
/-! ### a def of the text that is called by its name -/
def Cal (P : Program) (w : World) (K : PySem.W.Frag) (mg : Str → Option Value) (base : Heap) (k : Nat) (x : Str) (ps : List Str) (sp : Sp) : Prop :=
  ∃ (f : Addr) (fd : FuncData), mg x = some (.ref f) ∧ PySem.W.keepIn K (.ref f) = true ∧ Binds K fd ps [] ∧ FnOk P w K mg base CX0 k f fd ps sp
theorem pe_cal {X : Cx} {k j : Nat} {x : Str} {ps : List Str} {sp : Sp} {e : Expr} {es : List Expr} {t : TA} {p pos : Pos} (c : Cal X.prog X.w X.K X.mg X.base k x ps sp) (hr : Room j X.A) (ha : PA X (e :: es) t) (hle : k ≤ j := by decide) (hg : Gl X x := by rfl)
    (hdb : (x == ("__debug__" : Str)) = false := by decide) (he : starEach (e :: es) X.env = (false, eval e X.env) :: starEach es X.env := by rfl) (hpl : (backTo pos (starEach es X.env)).any (·.1) = false := by rfl) :
    PE X (.Call (.Name x p) (e :: es) [] pos) (tCall sp [] E0 t) := by
  obtain ⟨f, fd, h1, h2, h3, h4⟩ := c
  exact pe_call h4 (hr.mono hle) hg h1 h2 h3 .nil pass0 ha hdb he hpl
/-! ### heaps -/
def SameBut (a : Addr) (H H' : Hp) : Prop := ∀ b o, b ≠ a → H b = some o → H' b = some o
theorem SameBut.refl (a : Addr) (H : Hp) : SameBut a H H := fun _ _ _ h => h
theorem SameBut.trans {a : Addr} {H H1 H2 : Hp} (x : SameBut a H H1) (y : SameBut a H1 H2) : SameBut a H H2 := fun b o n h => y b o n (x b o n h)
theorem SameBut.of {a : Addr} {H H' : Hp} (s : Same H H') : SameBut a H H' := fun b o _ h => s b o h
theorem SameBut.upd {a : Addr} {H : Hp} {o : HO} : SameBut a H (upd H a o) := fun b _ n h => by
  rw [upd_ne n]
  exact h
theorem same_new {H : Hp} {p : Addr} {o : HO} (h : H p = none) : Same H (upd H p o) := fun b x e => by
  rw [upd_ne (ne_of_none e h)]
  exact e
theorem Same.tup {K : PySem.W.Frag} {H H' : Hp} {a : Addr} {xs : List V} (e : Same H H') (h : SqT K H a xs) : SqT K H' a xs := by
  rcases h with (h | ⟨o, h⟩) | h
  · exact .inl (.inl (e _ _ h))
  · exact .inl (.inr ⟨o, e _ _ h⟩)
  · exact .inr h
theorem a0 {α : Type} {x : α} {l : List α} : atI (x :: l) 0 = some x := atI_nat (j := 0) rfl
theorem a1 {α : Type} {x y : α} {l : List α} : atI (x :: y :: l) 1 = some y := atI_nat (j := 1) rfl
theorem a2 {α : Type} {x y z : α} {l : List α} : atI (x :: y :: z :: l) 2 = some z := atI_nat (j := 2) rfl
theorem toB {p : Prop} [Decidable p] (h : decide p = true) : p := of_decide_eq_true h
theorem toNB {p : Prop} [Decidable p] (h : ¬ decide p = true) : ¬ p := fun z => h (decide_eq_true z)
/-- a well: the digits left, a number that is mixed, how many were mixed (at most c) -/
def WellAt (H : Hp) (a : Addr) (c : Int) : Prop := ∃ x y z : Int, H a = some (.lst [.int x, .int y, .int z]) ∧ 0 ≤ y ∧ y < 2147483647 ∧ 0 ≤ z ∧ z ≤ c
theorem WellAt.mono {H : Hp} {a : Addr} {c d : Int} (h : WellAt H a c) (l : c ≤ d) : WellAt H a d := by
  obtain ⟨x, y, z, e, h1, h2, h3, h4⟩ := h
  exact ⟨x, y, z, e, h1, h2, h3, by omega⟩
theorem WellAt.same {H H' : Hp} {a : Addr} {c : Int} (h : WellAt H a c) (s : Same H H') : WellAt H' a c := by
  obtain ⟨x, y, z, e, h1, h2, h3, h4⟩ := h
  exact ⟨x, y, z, s _ _ e, h1, h2, h3, h4⟩
theorem WellAt.but {H H' : Hp} {a b : Addr} {c : Int} (h : WellAt H a c) (s : SameBut b H H') (n : a ≠ b) : WellAt H' a c := by
  obtain ⟨x, y, z, e, h1, h2, h3, h4⟩ := h
  exact ⟨x, y, z, s _ _ n e, h1, h2, h3, h4⟩
/-! ### promises of the law's helpers -/
def spCell (K : PySem.W.Frag) : Sp := fun vs H Q _ => ∃ (a : Addr) (ns : List Int) (k : Nat), vs = [.ref a, .int k] ∧ SqL K H a (ns.map V.int) ∧ Q (.int (ns.getD k 0)) H
def spWell : Sp := fun vs H Q _ => ∃ c : Int, vs = [.int c] ∧ ∀ p : Addr, H p = none → ∀ H', Same H H' → WellAt H' p 0 → Q (.ref p) H'
/-- a number from 0 to below m; the well has at most one more -/
def spDraw : Sp := fun vs H Q _ => ∃ (a : Addr) (c m : Int), vs = [.ref a, .int m] ∧ WellAt H a c ∧ c ≤ 1000000000 ∧ 0 < m ∧ m.natAbs < 2 ^ 9000 ∧
  ∀ (r : Int) (H' : Hp), 0 ≤ r → r < m → SameBut a H H' → (∀ b, H b = none → H' b = none) → WellAt H' a (c + 1) → Q (.int r) H'
def topS (i : Nat) : Stmt := PySem.Challenge.pw_echobound_k82_the_room_that_sums_need.main.body.getD i (.Pass ⟨0, 0, 0, 0⟩)
abbrev s__wall : Stmt := topS 0
abbrev s_is_whole : Stmt := topS 6
abbrev s_downward : Stmt := topS 8
abbrev s_upward : Stmt := topS 9
abbrev s_inward : Stmt := topS 10
abbrev s_outward : Stmt := topS 11
abbrev s_nearest_greater : Stmt := topS 12
abbrev s_nearest_even : Stmt := topS 13
abbrev s_nearest_far : Stmt := topS 14
abbrev s_is_manner : Stmt := topS 16
abbrev s_is_width : Stmt := topS 22
abbrev s_is_point : Stmt := topS 23
abbrev s_is_ends : Stmt := topS 24
abbrev s_is_numbers : Stmt := topS 28
abbrev s_dot : Stmt := topS 30
abbrev s_check_taps : Stmt := topS 34
abbrev s_extremes : Stmt := topS 35
abbrev s_width_for : Stmt := topS 36
abbrev s_guard : Stmt := topS 37
abbrev s__law_cell_at : Stmt := topS 39
abbrev s__law_well : Stmt := topS 40
abbrev s__law_draw : Stmt := topS 41
abbrev s__law_same : Stmt := topS 42
abbrev s__law_tap : Stmt := topS 43
abbrev s__law_sum : Stmt := topS 44
abbrev s__law_room : Stmt := topS 45
abbrev s_law : Stmt := topS 46
abbrev s_Form___init__ : Stmt := inClass (topS 25) 0
abbrev s_Form_least : Stmt := inClass (topS 25) 1
abbrev s_Form_greatest : Stmt := inClass (topS 25) 2
abbrev s_Form_has : Stmt := inClass (topS 25) 3
abbrev s_Form_step : Stmt := inClass (topS 25) 4
abbrev s_Form_slack : Stmt := inClass (topS 25) 5
abbrev s_Form_value : Stmt := inClass (topS 25) 6
abbrev s_Form_word_for : Stmt := inClass (topS 25) 7
abbrev s_Form_ended : Stmt := inClass (topS 25) 8
abbrev s_Form_kept : Stmt := inClass (topS 25) 9
abbrev s_Form_kept_at : Stmt := inClass (topS 25) 10
abbrev s_Form_bits : Stmt := inClass (topS 25) 11
abbrev s_Form_is_bits : Stmt := inClass (topS 25) 12
abbrev s_Form_word_of : Stmt := inClass (topS 25) 13
abbrev s_Form_added : Stmt := inClass (topS 25) 14
abbrev s_Form___eq__ : Stmt := inClass (topS 25) 15
abbrev s_Form___str__ : Stmt := inClass (topS 25) 16
abbrev s_Form___repr__ : Stmt := inClass (topS 25) 17

section
variable {P : Program} {w : World} {K : PySem.W.Frag} {mg : Str → Option Value} {base : Heap}
end
end E1

namespace E1
open PySem PySem.Spec PyProof.Rows L2

def CalD (P : Program) (w : World) (K : PySem.W.Frag) (mg : Str → Option Value) (base : Heap) (k : Nat) (x : Str) (ps : List Str) (dvs : List V) (sp : Sp) : Prop :=
  ∃ (f : Addr) (fd : FuncData) (ds : List Value), mg x = some (.ref f) ∧ PySem.W.keepIn K (.ref f) = true ∧ Vals dvs ds ∧ Binds K fd ps ds ∧ FnOk P w K mg base CX0 k f fd ps sp
theorem pe_cald {X : Cx} {k j : Nat} {x : Str} {ps : List Str} {dvs : List V} {sp : Sp} {e : Expr} {es : List Expr} {t : TA} {p pos : Pos} (c : CalD X.prog X.w X.K X.mg X.base k x ps dvs sp) (hr : Room j X.A) (ha : PA X (e :: es) t) (hle : k ≤ j := by decide) (hg : Gl X x := by rfl)
    (hdb : (x == ("__debug__" : Str)) = false := by decide) (he : starEach (e :: es) X.env = (false, eval e X.env) :: starEach es X.env := by rfl) (hpl : (backTo pos (starEach es X.env)).any (·.1) = false := by rfl) :
    PE X (.Call (.Name x p) (e :: es) [] pos) (tCall sp dvs E0 t) := by
  obtain ⟨f, fd, ds, h1, h2, hd, h3, h4⟩ := c
  exact pe_call h4 (hr.mono hle) hg h1 h2 h3 hd pass0 ha hdb he hpl
def CalK (P : Program) (w : World) (K : PySem.W.Frag) (mg : Str → Option Value) (base : Heap) (k : Nat) (x : Str) (ps : List Str) (n : Nat) (ks : List Str) (gV : List V → List V → List V) (sp : Sp) : Prop :=
  ∃ (f : Addr) (fd : FuncData) (g : List Value → List Value → List Value), mg x = some (.ref f) ∧ PySem.W.keepIn K (.ref f) = true ∧ KBn K fd ps n ks g gV ∧ FnOk P w K mg base CX0 k f fd ps sp
theorem pe_calk {X : Cx} {k j n : Nat} {x : Str} {ps ks : List Str} {gV : List V → List V → List V} {sp : Sp} {e : Expr} {es : List Expr} {kws : List Keyword} {t tk : TA} {p pos : Pos} (c : CalK X.prog X.w X.K X.mg X.base k x ps n ks gV sp) (hr : Room j X.A)
    (ha : PA X (e :: es) t) (hkw : PK X kws tk) (hle : k ≤ j := by decide) (hg : Gl X x := by rfl) (hall : (backToKw pos (keywordEach kws X.env)).all (·.1.isSome) = true := by rfl) (hks : (backToKw pos (keywordEach kws X.env)).filterMap (·.1) = ks := by rfl)
    (hdb : (x == ("__debug__" : Str)) = false := by decide) (he : starEach (e :: es) X.env = (false, eval e X.env) :: starEach es X.env := by rfl)
    (hpl : ((backTo pos (starEach (e :: es) X.env)).any (·.1) || (backToKw pos (keywordEach kws X.env)).any (·.1.isNone)) = false := by rfl) :
    PE X (.Call (.Name x p) (e :: es) kws pos) (tCallN n ks.length sp gV E0 t tk) := by
  obtain ⟨f, fd, g, h1, h2, h3, h4⟩ := c
  exact pe_callN h4 (hr.mono hle) hg h1 h2 h3 pass0 ha hkw hall hks hdb he hpl
theorem pe_calk0 {X : Cx} {k j : Nat} {x : Str} {ps ks : List Str} {gV : List V → List V → List V} {sp : Sp} {kws : List Keyword} {tk : TA} {p pos : Pos} (c : CalK X.prog X.w X.K X.mg X.base k x ps 0 ks gV sp) (hr : Room j X.A)
    (hkw : PK X kws tk) (hle : k ≤ j := by decide) (hg : Gl X x := by rfl) (hall : (backToKw pos (keywordEach kws X.env)).all (·.1.isSome) = true := by rfl) (hks : (backToKw pos (keywordEach kws X.env)).filterMap (·.1) = ks := by rfl)
    (hdb : (x == ("__debug__" : Str)) = false := by decide)
    (hpl : ((backTo pos (starEach [] X.env)).any (·.1) || (backToKw pos (keywordEach kws X.env)).any (·.1.isNone)) = false := by rfl) :
    PE X (.Call (.Name x p) [] kws pos) (tCallN 0 ks.length sp gV E0 tNil tk) := by
  obtain ⟨f, fd, g, h1, h2, h3, h4⟩ := c
  refine ⟨fun pins s σ H Q I h => ?_⟩
  refine wpAny_Call_Name_kw (ld_glob I hg h1 ?_ hdb)
  refine PySem.W.callWith_KW0 (h₀ := X.base) I.ok.mod.kin h2 hall (thn (hkw.run pos pins s σ H _ I h) fun ws s2 ⟨zs, H2, I2, rz, l1, l2, q2⟩ => ⟨I2.kIn, ?_⟩) hpl
  rw [hks]
  exact run_fnN (vs := []) (us := []) h4 (hr.mono hle) h3 pass0 I2 .nil rz l1 l2 q2
/-- a class handed to isinstance -/
theorem isiB {K : PySem.W.Frag} {H : Hp} {x : V} {a b : String} {r : Bool} {Q : VK} (ty : TyX K H x (.type a)) (k : kitB a b = some r) (q : Q (.bl r) H) : rIsi K [x, .ty b] H Q :=
  ⟨x, .ty b, .type a, .type b, r, rfl, .ty _, ty, kit_ty k, q⟩
/-- whether a thing is a whole number -/
def WholeIs (K : PySem.W.Frag) (H : Hp) (x : V) (b : Bool) : Prop := (∃ i, x = .int i ∧ b = true) ∨ (∃ c, x = .bl c ∧ b = false) ∨ (b = false ∧ ∃ t : String, TyX K H x (.type t) ∧ kitB t "int" = some false)
theorem WholeIs.int {K : PySem.W.Frag} {H : Hp} (i : Int) : WholeIs K H (.int i) true := .inl ⟨i, rfl, rfl⟩
def spWhole (K : PySem.W.Frag) : Sp := fun vs H Q _ => ∃ (x : V) (b : Bool), vs = [x] ∧ WholeIs K H x b ∧ Q (.bl b) H
/-! ### the mathematics of fractions in lowest terms -/
def gI (t b : Int) : Int := (Int.gcd t b : Nat)
def lowT (t b : Int) : Int := (if b < 0 then -t else t) / gI t b
def lowB (t b : Int) : Int := (if b < 0 then -b else b) / gI t b
theorem gI_neg (t b : Int) : gI (-t) (-b) = gI t b := by
  unfold gI
  rw [Int.neg_gcd, Int.gcd_neg]
theorem gI_pos {t b : Int} (h : b ≠ 0) : 0 < gI t b := by
  have : 0 < Int.gcd t b := Int.gcd_pos_of_ne_zero_right t h
  unfold gI
  omega
theorem gI_le {t b : Int} (h : b ≠ 0) : (gI t b).natAbs ≤ b.natAbs := by
  have d : Int.gcd t b ∣ b.natAbs := Nat.gcd_dvd_right t.natAbs b.natAbs
  have := Nat.le_of_dvd (by omega) d
  unfold gI
  omega
def spShared : Sp := fun vs H Q _ => ∃ t b : Int, vs = [.int t, .int b] ∧ 0 ≤ b ∧ Q (.int (gI t b)) H
def spLow : Sp := fun vs H Q _ => ∃ t b : Int, vs = [.int t, .int b] ∧ b ≠ 0 ∧ b.natAbs < 2 ^ 4000 ∧ ∀ p, H p = none → Q (.ref p) (upd H p (.tup [.int (lowT t b), .int (lowB t b)]))
/-- two fractions at two places; the tops and bottoms told by f and d -/
def spTwo (K : PySem.W.Frag) (pre : Int → Int → Int → Int → Prop) (f d : Int → Int → Int → Int → Int) : Sp := fun vs H Q _ => ∃ (a c : Addr) (t u v x : Int), vs = [.ref a, .ref c] ∧ SqT K H a [.int t, .int u] ∧ SqT K H c [.int v, .int x] ∧
  pre t u v x ∧ 0 < u ∧ 0 < x ∧ t.natAbs < 2 ^ 1900 ∧ u.natAbs < 2 ^ 1900 ∧ v.natAbs < 2 ^ 1900 ∧ x.natAbs < 2 ^ 1900 ∧ ∀ p, H p = none → Q (.ref p) (upd H p (.tup [.int (lowT (f t u v x) (d t u v x)), .int (lowB (f t u v x) (d t u v x))]))
def spUnder (K : PySem.W.Frag) : Sp := fun vs H Q _ => ∃ (a c : Addr) (t u v x : Int), vs = [.ref a, .ref c] ∧ SqT K H a [.int t, .int u] ∧ SqT K H c [.int v, .int x] ∧
  t.natAbs < 2 ^ 1900 ∧ u.natAbs < 2 ^ 1900 ∧ v.natAbs < 2 ^ 1900 ∧ x.natAbs < 2 ^ 1900 ∧ Q (.bl (decide (t * x < v * u))) H
def absI (t : Int) : Int := if t < 0 then -t else t
def spSize (K : PySem.W.Frag) : Sp := fun vs H Q _ => ∃ (a : Addr) (t u : Int), vs = [.ref a] ∧ SqT K H a [.int t, .int u] ∧ ∀ p, H p = none → Q (.ref p) (upd H p (.tup [.int (absI t), .int u]))
def twoT (m : Int) : Int := if m < 0 then 1 else 2 ^ m.toNat
def twoB (m : Int) : Int := if m < 0 then 2 ^ (-m).toNat else 1
def spTwoTo : Sp := fun vs H Q _ => ∃ m : Int, vs = [.int m] ∧ -400 ≤ m ∧ m ≤ 400 ∧ ∀ p, H p = none → Q (.ref p) (upd H p (.tup [.int (twoT m), .int (twoB m)]))
def spIsFrac : Sp := fun vs H Q _ => ∃ (a : Addr) (t u : Int), vs = [.ref a] ∧ H a = some (.tup [.int t, .int u]) ∧ 1 ≤ u ∧ Q (.bl (decide (gI t u = 1))) H
theorem up {x : Nat} {a b : Nat} (h : x < 2 ^ a) (l : a ≤ b) : x < 2 ^ b := Nat.lt_of_lt_of_le h (Nat.pow_le_pow_right (by decide) l)
theorem iteN {c A B : Prop} [Decidable c] (h1 : ¬ c → A) (h2 : c → B) : if (!decide c) = true then A else B := by
  by_cases h : c
  · rw [decide_eq_true h]
    exact iteF (h2 h)
  · rw [decide_eq_false h]
    exact iteT (h1 h)
theorem Same.free {H H' : Hp} {p : Addr} (s : Same H H') (h : H' p = none) : H p = none := by
  cases e : H p with
  | none => rfl
  | some o =>
    rw [s _ _ e] at h
    cases h
structure Zs (mg : Str → Option Value) : Prop where
  isinstance : mg "isinstance" = none
  int : mg "int" = none
  bool : mg "bool" = none
  str : mg "str" = none
  abs : mg "abs" = none
  list : mg "list" = none
  len : mg "len" = none
  all : mg "all" = none
  sum : mg "sum" = none
  zip : mg "zip" = none
  max : mg "max" = none
  tuple : mg "tuple" = none
  enumerate : mg "enumerate" = none
  range : mg "range" = none

theorem kit2 {K : PySem.W.Frag} {t a b : String} {r1 r2 : Bool} (h1 : kitB t a = some r1) (h2 : kitB t b = some r2) : PySem.W.kitAny K (.type t) [.type a, .type b] = some (r1 || r2) := by
  refine kitAny_cons (kit_ty h1) (fun e => ?_) (fun e => ?_)
  · subst e
    refine kitAny_cons (kit_ty h2) (fun e => ?_) (fun e => ?_)
    · subst e
      rfl
    · subst e
      rfl
  · subst e
    rfl
/-- a thing that is no list and no tuple -/
inductive Flat : V → Prop where
  | int (i : Int) : Flat (.int i)
  | bl (b : Bool) : Flat (.bl b)
  | str (s : Str) : Flat (.str s)
  | non : Flat .non
/-- alike at a depth below n -/
def Al (H : Hp) : Nat → V → V → Prop
  | 0, _, _ => False
  | n + 1, x, y => (x = y ∧ Flat x) ∨ ∃ a c xs ys, x = .ref a ∧ y = .ref c ∧ xs.length = ys.length ∧ xs.length ≤ 1000 ∧ (∀ (i : Nat) u v, xs[i]? = some u → ys[i]? = some v → Al H n u v) ∧
      ((H a = some (.tup xs) ∧ H c = some (.tup ys)) ∨ (H a = some (.lst xs) ∧ H c = some (.lst ys)))
theorem Al.same {H H' : Hp} (s : Same H H') : ∀ (n : Nat) (x y : V), Al H n x y → Al H' n x y
  | 0, _, _, h => h
  | n + 1, x, y, h => by
    rcases h with h | ⟨a, c, xs, ys, e1, e2, l1, l2, al, hk⟩
    · exact .inl h
    · refine .inr ⟨a, c, xs, ys, e1, e2, l1, l2, fun i u v h1 h2 => Al.same s n u v (al i u v h1 h2), ?_⟩
      rcases hk with ⟨h1, h2⟩ | ⟨h1, h2⟩
      · exact .inl ⟨s _ _ h1, s _ _ h2⟩
      · exact .inr ⟨s _ _ h1, s _ _ h2⟩
theorem Al.more {H : Hp} : ∀ (n : Nat) (x y : V), Al H n x y → Al H (n + 1) x y
  | 0, _, _, h => False.elim h
  | n + 1, x, y, h => by
    rcases h with h | ⟨a, c, xs, ys, e1, e2, l1, l2, al, hk⟩
    · exact .inl h
    · exact .inr ⟨a, c, xs, ys, e1, e2, l1, l2, fun i u v h1 h2 => Al.more n u v (al i u v h1 h2), hk⟩
theorem Al.int {H : Hp} {n : Nat} (i : Int) : Al H (n + 1) (.int i) (.int i) := .inl ⟨rfl, .int i⟩
theorem Al.ints {H : Hp} {n : Nat} {a c : Addr} {ns : List Int} (hl : ns.length ≤ 1000) (h1 : H a = some (.lst (ns.map V.int))) (h2 : H c = some (.lst (ns.map V.int))) : Al H (n + 2) (.ref a) (.ref c) := by
  refine .inr ⟨a, c, _, _, rfl, rfl, rfl, by rw [List.length_map]; exact hl, fun i u v e1 e2 => ?_, .inr ⟨h1, h2⟩⟩
  have e := Option.some.inj (e1.symm.trans e2)
  subst e
  rw [List.getElem?_map] at e1
  obtain ⟨m, _, rfl⟩ := Option.map_eq_some_iff.mp e1
  exact Al.int m
def spSameN (n : Nat) : Sp := fun vs H Q _ => ∃ x y, vs = [x, y] ∧ Al H n x y ∧ ∀ H', Same H H' → Q (.bl true) H'
/-- two tuples beside each other: as many turns as the shorter one has places -/
theorem walk_zipT {K : PySem.W.Frag} {a b : Addr} {xs ys : List V} {n : Nat} (hn : n = min xs.length ys.length) : Walk (RZ.ItzT K a b) n (fun H => SqT K H a xs ∧ SqT K H b ys) (YPair (fun i => xs[i]?) (fun i => ys[i]?)) := by
  have less : ∀ i, i < n → i < xs.length ∧ i < ys.length := fun i hi => ⟨by omega, by omega⟩
  constructor
  · intro i G hi both
    obtain ⟨hx, hy⟩ := less i hi
    exact ⟨xs, ys, xs[i]'hx, ys[i]'hy, both.1, both.2, List.getElem?_eq_getElem hx, List.getElem?_eq_getElem hy⟩
  · intro G both
    exact ⟨xs, ys, both.1, both.2, by omega⟩
  · intro i G v G' hi both told
    obtain ⟨T, l, r, e1, e2, e3, gl, gr⟩ := told
    exact ⟨T, l, r, e1, e2, e3, gl _ both.1, gr _ both.2⟩
theorem rep_map (n : Nat) : (List.replicate n true).map V.bl = List.replicate n (V.bl true) := by rw [List.map_replicate]
theorem rep_all (n : Nat) : (List.replicate n true).all id = true := by
  rw [List.all_eq_true]
  intro x h
  exact (List.mem_replicate.mp h).2
theorem rep_more (n : Nat) : List.replicate n (V.bl true) ++ [V.bl true] = List.replicate (n + 1) (V.bl true) := by rw [List.replicate_succ']

/-! ### sums of taps and rows -/
def dotI : List Int → List Int → Int
  | x :: xs, y :: ys => x * y + dotI xs ys
  | _, _ => 0
def prodI : List Int → List Int → List Int
  | x :: xs, y :: ys => x * y :: prodI xs ys
  | _, _ => []
theorem prodI_sum : ∀ xs ys : List Int, (prodI xs ys).sum = dotI xs ys
  | [], _ => by simp [prodI, dotI]
  | _ :: _, [] => by simp [prodI, dotI]
  | x :: xs, y :: ys => by
    rw [prodI, dotI, List.sum_cons, prodI_sum xs ys]
theorem prodI_snoc : ∀ (xs ys : List Int) (x y : Int), xs.length = ys.length → prodI (xs ++ [x]) (ys ++ [y]) = prodI xs ys ++ [x * y]
  | [], [], _, _, _ => rfl
  | a :: xs, b :: ys, x, y, h => by
    show a * b :: prodI (xs ++ [x]) (ys ++ [y]) = a * b :: (prodI xs ys ++ [x * y])
    rw [prodI_snoc xs ys x y (Nat.succ.inj h)]
theorem prodI_len : ∀ (xs ys : List Int), xs.length = ys.length → (prodI xs ys).length = xs.length
  | [], [], _ => rfl
  | a :: xs, b :: ys, h => by
    show (prodI xs ys).length + 1 = xs.length + 1
    rw [prodI_len xs ys (Nat.succ.inj h)]
theorem dotI_snoc (xs ys : List Int) (x y : Int) (h : xs.length = ys.length) : dotI (xs ++ [x]) (ys ++ [y]) = dotI xs ys + x * y := by
  rw [← prodI_sum, prodI_snoc xs ys x y h, List.sum_append, prodI_sum]
  simp
def pick (a b : Int) (f : Int → Bool) (xs : List Int) : List Int := xs.map fun t => if f t = true then b else a
theorem pick_len (a b : Int) (f : Int → Bool) (xs : List Int) : (pick a b f xs).length = xs.length := List.length_map _
theorem least_le (a b : Int) : ∀ (xs ys : List Int), xs.length = ys.length → (∀ y ∈ ys, a ≤ y ∧ y ≤ b) → dotI xs (pick a b (fun t => decide (t < 0)) xs) ≤ dotI xs ys
  | [], [], _, _ => Int.le_refl _
  | x :: xs, y :: ys, h, hy => by
    have i := least_le a b xs ys (Nat.succ.inj h) fun z hz => hy z (List.mem_cons_of_mem _ hz)
    have h0 := hy y List.mem_cons_self
    show x * (if decide (x < 0) = true then b else a) + dotI xs (pick a b (fun t => decide (t < 0)) xs) ≤ x * y + dotI xs ys
    have : x * (if decide (x < 0) = true then b else a) ≤ x * y := by
      by_cases c : x < 0
      · rw [if_pos (decide_eq_true c)]
        exact Int.mul_le_mul_of_nonpos_left (by omega) h0.2
      · rw [if_neg (by simpa using c)]
        exact Int.mul_le_mul_of_nonneg_left h0.1 (by omega)
    omega
theorem le_most (a b : Int) : ∀ (xs ys : List Int), xs.length = ys.length → (∀ y ∈ ys, a ≤ y ∧ y ≤ b) → dotI xs ys ≤ dotI xs (pick a b (fun t => decide (t > 0)) xs)
  | [], [], _, _ => Int.le_refl _
  | x :: xs, y :: ys, h, hy => by
    have i := le_most a b xs ys (Nat.succ.inj h) fun z hz => hy z (List.mem_cons_of_mem _ hz)
    have h0 := hy y List.mem_cons_self
    show x * y + dotI xs ys ≤ x * (if decide (x > 0) = true then b else a) + dotI xs (pick a b (fun t => decide (t > 0)) xs)
    have : x * y ≤ x * (if decide (x > 0) = true then b else a) := by
      by_cases c : x > 0
      · rw [if_pos (decide_eq_true c)]
        exact Int.mul_le_mul_of_nonneg_left h0.2 (by omega)
      · rw [if_neg (by simpa using c)]
        exact Int.mul_le_mul_of_nonpos_left (by omega) h0.1
    omega
theorem pick_snoc (a b : Int) (f : Int → Bool) (xs : List Int) (i : Nat) (t : Int) (h : xs[i]? = some t) : pick a b f (xs.take (i + 1)) = pick a b f (xs.take i) ++ [if f t = true then b else a] := by
  unfold pick
  rw [List.take_succ, h, Option.toList_some, List.map_append]
  rfl
theorem dp_ints {K : PySem.W.Frag} {H : Hp} : ∀ ds : List Int, DpAll K H (ds.map V.int) (ds.map PyData.int)
  | [] => .nil
  | d :: ds => .cons (.int d) (dp_ints ds)
theorem eqv_ints (ds : List Int) : PyData.eqv (.list (ds.map PyData.int)) (.list (ds.map PyData.int)) = true := SeqAt.eqv_refl _ (SeqAt.canLay_of_shaped (PySem.W.shaped_ints ds))
def Small (ns : List Int) : Prop := ns.length ≤ 40 ∧ ∀ n ∈ ns, n.natAbs < 1000000000000000000
def spNums : Sp := fun vs H Q _ => ∃ (a : Addr) (ns : List Int) (lo hi : Int), vs = [.ref a, .int lo, .int hi] ∧ H a = some (.lst (ns.map V.int)) ∧ Small ns ∧ lo ≤ ns.length ∧ (ns.length : Int) ≤ hi ∧ ∀ H', Same H H' → Q (.bl true) H'
def spDot : Sp := fun vs H Q _ => ∃ (a c : Addr) (xs ys : List Int), vs = [.ref a, .ref c] ∧ H a = some (.lst (xs.map V.int)) ∧ H c = some (.lst (ys.map V.int)) ∧ Small xs ∧ xs.length = ys.length ∧ ∀ H', Same H H' → Q (.int (dotI xs ys)) H'
def spTaps : Sp := fun vs H Q _ => ∃ (a : Addr) (ns : List Int), vs = [.ref a] ∧ H a = some (.lst (ns.map V.int)) ∧ Small ns ∧ 1 ≤ ns.length ∧ ∀ H', Same H H' → Q .non H'
abbrev lowR (l h : Int) (ns : List Int) : List Int := pick l h (fun t => decide (t < 0)) ns
abbrev upR (l h : Int) (ns : List Int) : List Int := pick l h (fun t => decide (t > 0)) ns
def spExt : Sp := fun vs H Q _ => ∃ (a : Addr) (ns : List Int) (l h : Int), vs = [.ref a, .int l, .int h] ∧ H a = some (.lst (ns.map V.int)) ∧ Small ns ∧ 1 ≤ ns.length ∧ l ≤ h ∧
  ∀ p b c H', H p = none → H b = none → H c = none → b ≠ p → Same H H' → H' p = some (.tup [.int (dotI ns (lowR l h ns)), .ref b, .int (dotI ns (upR l h ns)), .ref c]) → H' b = some (.lst ((lowR l h ns).reverse.map V.int)) → H' c = some (.lst ((upR l h ns).reverse.map V.int)) → b ≠ c → Q (.ref p) H'
/-! ### the seven manners -/
inductive Mn where
  | down | up | inn | out | half | even | far
def Mn.str : Mn → Str
  | .down => "down"
  | .up => "up"
  | .inn => "in"
  | .out => "out"
  | .half => "half"
  | .even => "even"
  | .far => "far"
def fDown (t b : Int) : Int := t / b
def fUp (t b : Int) : Int := -(-t / b)
def fHalf (t b : Int) : Int := (2 * t + b) / (2 * b)
def fEven (t b : Int) : Int := if 2 * (fHalf t b * b - t) = b ∧ fHalf t b % 2 ≠ 0 then fHalf t b - 1 else fHalf t b
def fFar (t b : Int) : Int := if t > 0 then fHalf t b else -(fHalf (-t) b)
def fIn (t b : Int) : Int := if t > 0 then fDown t b else fUp t b
def fOut (t b : Int) : Int := if t > 0 then fUp t b else fDown t b
def Mn.f : Mn → Int → Int → Int
  | .down => fDown
  | .up => fUp
  | .inn => fIn
  | .out => fOut
  | .half => fHalf
  | .even => fEven
  | .far => fFar
def lawR (m : Mn) (t b : Int) : Int :=
  match m with
  | .down => t / b
  | .up => if t % b = 0 then t / b else t / b + 1
  | .inn => if t % b = 0 then t / b else t / b + (if t < 0 then 1 else 0)
  | .out => if t % b = 0 then t / b else t / b + (if t > 0 then 1 else 0)
  | .half => if 2 * (t % b) < b then t / b else t / b + 1
  | .even => if 2 * (t % b) < b then t / b else if b < 2 * (t % b) then t / b + 1 else t / b + t / b % 2
  | .far => if 2 * (t % b) < b then t / b else if b < 2 * (t % b) then t / b + 1 else t / b + (if t > 0 then 1 else 0)
theorem div_is {t b q : Int} (hb : 0 < b) (h1 : q * b ≤ t) (h2 : t < q * b + b) : t / b = q := by
  have a1 : q ≤ t / b := Int.le_ediv_of_mul_le hb h1
  have a2 : t / b < q + 1 := Int.ediv_lt_of_lt_mul hb (by rw [Int.add_mul, Int.one_mul]; exact h2)
  omega
theorem dm (t : Int) {b : Int} (hb : 0 < b) : t = t / b * b + t % b ∧ 0 ≤ t % b ∧ t % b < b := by
  refine ⟨?_, Int.emod_nonneg _ (by omega), Int.emod_lt_of_pos _ hb⟩
  have := Int.mul_ediv_add_emod t b
  rw [Int.mul_comm] at this
  omega
theorem fUp_is {t b : Int} (hb : 0 < b) : fUp t b = if t % b = 0 then t / b else t / b + 1 := by
  obtain ⟨e, r0, r1⟩ := dm t hb
  unfold fUp
  generalize t / b = q at *
  generalize t % b = r at *
  split
  · rename_i h
    have := div_is (t := -t) (q := -q) hb (by rw [Int.neg_mul]; omega) (by rw [Int.neg_mul]; omega)
    rw [this]
    omega
  · rename_i h
    have := div_is (t := -t) (q := -q - 1) hb (by rw [Int.sub_mul, Int.neg_mul, Int.one_mul]; omega) (by rw [Int.sub_mul, Int.neg_mul, Int.one_mul]; omega)
    rw [this]
    omega
theorem fHalf_is {t b : Int} (hb : 0 < b) : fHalf t b = if 2 * (t % b) < b then t / b else t / b + 1 := by
  obtain ⟨e, r0, r1⟩ := dm t hb
  unfold fHalf
  generalize t / b = q at *
  generalize t % b = r at *
  have e2 : q * (2 * b) = 2 * (q * b) := Int.mul_left_comm q 2 b
  split
  · rename_i h
    exact div_is (by omega) (by rw [e2]; omega) (by rw [e2]; omega)
  · rename_i h
    exact div_is (by omega) (by rw [Int.add_mul, e2, Int.one_mul]; omega) (by rw [Int.add_mul, e2, Int.one_mul]; omega)
theorem fHalf_neg {t b : Int} (hb : 0 < b) : -(fHalf (-t) b) = if b < 2 * (t % b) then t / b + 1 else t / b := by
  obtain ⟨e, r0, r1⟩ := dm t hb
  unfold fHalf
  generalize t / b = q at *
  generalize t % b = r at *
  have e2 : q * (2 * b) = 2 * (q * b) := Int.mul_left_comm q 2 b
  split
  · rename_i h
    have := div_is (t := 2 * -t + b) (b := 2 * b) (q := -q - 1) (by omega) (by rw [Int.sub_mul, Int.neg_mul, e2, Int.one_mul]; omega) (by rw [Int.sub_mul, Int.neg_mul, e2, Int.one_mul]; omega)
    rw [this]
    omega
  · rename_i h
    have := div_is (t := 2 * -t + b) (b := 2 * b) (q := -q) (by omega) (by rw [Int.neg_mul, e2]; omega) (by rw [Int.neg_mul, e2]; omega)
    rw [this]
    omega
theorem fEven_is {t b : Int} (hb : 0 < b) : fEven t b = lawR .even t b := by
  obtain ⟨e, r0, r1⟩ := dm t hb
  unfold fEven
  rw [fHalf_is hb]
  show _ = if 2 * (t % b) < b then t / b else if b < 2 * (t % b) then t / b + 1 else t / b + t / b % 2
  generalize t / b = q at *
  generalize t % b = r at *
  by_cases h : 2 * r < b
  · rw [if_pos h, if_pos h, if_neg (by intro z; omega)]
  · rw [if_neg h, if_neg h, Int.add_mul, Int.one_mul]
    by_cases h2 : b < 2 * r
    · rw [if_pos h2, if_neg (by intro z; omega)]
    · rw [if_neg h2]
      by_cases h3 : (q + 1) % 2 ≠ 0
      · rw [if_pos ⟨by omega, h3⟩]
        omega
      · rw [if_neg (fun z => h3 z.2)]
        omega
theorem f_lawR (m : Mn) {t b : Int} (hb : 0 < b) : m.f t b = lawR m t b := by
  obtain ⟨e, r0, r1⟩ := dm t hb
  cases m with
  | down => rfl
  | up => exact fUp_is hb
  | inn =>
    show fIn t b = if t % b = 0 then t / b else t / b + (if t < 0 then 1 else 0)
    unfold fIn fDown
    rw [fUp_is hb]
    by_cases h : t > 0
    · rw [if_pos h, if_neg (show ¬ t < 0 by omega)]
      split <;> omega
    · rw [if_neg h]
      by_cases h2 : t < 0
      · rw [if_pos h2]
      · have h3 : t = 0 := by omega
        rw [if_neg h2, h3]
        simp
  | out =>
    show fOut t b = if t % b = 0 then t / b else t / b + (if t > 0 then 1 else 0)
    unfold fOut fDown
    rw [fUp_is hb]
    by_cases h : t > 0
    · rw [if_pos h, if_pos h]
    · rw [if_neg h, if_neg h]
      split <;> omega
  | half => exact fHalf_is hb
  | even => exact fEven_is hb
  | far =>
    show fFar t b = if 2 * (t % b) < b then t / b else if b < 2 * (t % b) then t / b + 1 else t / b + (if t > 0 then 1 else 0)
    unfold fFar
    rw [fHalf_is hb, fHalf_neg hb]
    by_cases h : t > 0
    · rw [if_pos h, if_pos h]
      split
      · rfl
      · split <;> rfl
    · rw [if_neg h, if_neg h]
      by_cases h2 : 2 * (t % b) < b
      · rw [if_pos h2, if_neg (show ¬ b < 2 * (t % b) by omega)]
      · rw [if_neg h2]
        split <;> omega
theorem lt_g {x y g : Int} (hg : 0 < g) : x * g < y * g ↔ x < y := ⟨fun h => Int.lt_of_mul_lt_mul_right h (Int.le_of_lt hg), fun h => Int.mul_lt_mul_of_pos_right h hg⟩
theorem lawR_mul (m : Mn) {t b g : Int} (hb : 0 < b) (hg : 0 < g) : lawR m (t * g) (b * g) = lawR m t b := by
  have e1 : t * g / (b * g) = t / b := Int.mul_ediv_mul_of_pos_left _ _ hg
  have e2 : t * g % (b * g) = t % b * g := by
    rw [Int.mul_comm t g, Int.mul_comm b g, Int.mul_emod_mul_of_pos _ _ hg, Int.mul_comm]
  have c0 : t % b * g = 0 ↔ t % b = 0 := by
    constructor
    · intro h
      rcases Int.mul_eq_zero.mp h with h | h
      · exact h
      · omega
    · intro h
      rw [h, Int.zero_mul]
  have c1 : t * g < 0 ↔ t < 0 := by
    have := lt_g (x := t) (y := 0) hg
    rw [Int.zero_mul] at this
    exact this
  have c2 : t * g > 0 ↔ t > 0 := by
    have := lt_g (x := 0) (y := t) hg
    rw [Int.zero_mul] at this
    exact this
  have c3 : 2 * (t % b * g) < b * g ↔ 2 * (t % b) < b := by
    rw [← Int.mul_assoc]
    exact lt_g hg
  have c4 : b * g < 2 * (t % b * g) ↔ b < 2 * (t % b) := by
    rw [← Int.mul_assoc]
    exact lt_g hg
  cases m <;> simp only [lawR, e1, e2, c0, c1, c2, c3, c4]
theorem lawR_eq (m : Mn) {t b x y : Int} (hb : 0 < b) (hy : 0 < y) (h : x * b = t * y) : lawR m x y = lawR m t b := by
  rw [← lawR_mul m hy hb, h, Int.mul_comm y b, lawR_mul m hb hy]
/-- how far off -/
theorem lawR_off (m : Mn) {t b : Int} (hb : 0 < b) : -b ≤ lawR m t b * b - t ∧ lawR m t b * b - t ≤ b := by
  obtain ⟨e, r0, r1⟩ := dm t hb
  have key : ∀ q' : Int, (q' = t / b ∨ q' = t / b + 1) → -b ≤ q' * b - t ∧ q' * b - t ≤ b := fun q' h => by
    generalize t / b = q at *
    generalize t % b = r at *
    rcases h with rfl | rfl
    · omega
    · rw [Int.add_mul, Int.one_mul]
      omega
  refine key _ ?_
  clear key
  cases m <;> simp only [lawR] <;> (generalize t / b = q at *) <;> (repeat' split) <;> (first | omega | exact .inl trivial)
theorem lawR_near {m : Mn} {t b : Int} (hb : 0 < b) (hm : m = .half ∨ m = .even ∨ m = .far) : -b ≤ 2 * (lawR m t b * b - t) ∧ 2 * (lawR m t b * b - t) ≤ b := by
  obtain ⟨e, r0, r1⟩ := dm t hb
  have key : ∀ q' : Int, ((q' = t / b ∧ 2 * (t % b) ≤ b) ∨ (q' = t / b + 1 ∧ b ≤ 2 * (t % b))) → -b ≤ 2 * (q' * b - t) ∧ 2 * (q' * b - t) ≤ b := fun q' h => by
    generalize t / b = q at *
    generalize t % b = r at *
    rcases h with ⟨rfl, h⟩ | ⟨rfl, h⟩
    · omega
    · rw [Int.add_mul, Int.one_mul]
      omega
  refine key _ ?_
  clear key
  rcases hm with rfl | rfl | rfl <;> simp only [lawR] <;> (generalize t / b = q at *) <;> (repeat' split) <;> omega

def spRnd (g : Int → Int → Int) : Sp := fun vs H Q _ => ∃ t b : Int, vs = [.int t, .int b] ∧ 0 < b ∧ t.natAbs < 2 ^ 4000 ∧ b.natAbs < 2 ^ 4000 ∧ Q (.int (g t b)) H
structure Mans (P : Program) (w : World) (K : PySem.W.Frag) (mg : Str → Option Value) (base : Heap) (dM : Addr) (es : Array DictEntry) (n : Nat) : Prop where
  gm : mg "MANNERS" = some (.ref dM)
  D : KDict K w dM es n
  at_ : ∀ m : Mn, ∃ (f : Addr) (fd : FuncData), PySem.W.nsIn K dM m.str = some (some (.ref f)) ∧ PySem.W.keepIn K (.ref f) = true ∧ Binds K fd ["top", "bottom"] [] ∧ FnOk P w K mg base CX0 2 f fd ["top", "bottom"] (spRnd m.f)
/-- whether a thing is a manner -/
def MannerIs (K : PySem.W.Frag) (H : Hp) (dM : Addr) (x : V) (b : Bool) : Prop := (∃ m : Mn, x = .str m.str ∧ b = true) ∨ (∃ z : Str, x = .str z ∧ PySem.W.nsIn K dM z = some none ∧ b = false) ∨ (b = false ∧ ∃ t : String, TyX K H x (.type t) ∧ kitB t "str" = some false)
def spManner (K : PySem.W.Frag) (dM : Addr) : Sp := fun vs H Q _ => ∃ (x : V) (b : Bool), vs = [x] ∧ MannerIs K H dM x b ∧ Q (.bl b) H
def spRounded (K : PySem.W.Frag) : Sp := fun vs H Q _ => ∃ (a : Addr) (m : Mn) (t b : Int), vs = [.ref a, .str m.str] ∧ SqT K H a [.int t, .int b] ∧ 0 < b ∧ t.natAbs < 2 ^ 4000 ∧ b.natAbs < 2 ^ 4000 ∧ Q (.int (m.f t b)) H
theorem two_b {b : Int} (h : b.natAbs < 2 ^ 4000) : (2 * b).natAbs < 2 ^ 4001 := by
  rw [Int.natAbs_mul, Nat.pow_succ, Nat.mul_comm]
  exact Nat.mul_lt_mul_of_pos_right h (by decide)
theorem half_le {t b : Int} (ht : t.natAbs < 2 ^ 4000) (hb : b.natAbs < 2 ^ 4000) : (fHalf t b).natAbs < 2 ^ 4003 := by
  unfold fHalf
  refine Nat.lt_of_le_of_lt (Int.natAbs_ediv_le_natAbs _ _) ?_
  have h1 : (2 * t + b).natAbs ≤ 2 * t.natAbs + b.natAbs := by omega
  have e : 2 ^ 4003 = 2 ^ 4000 * 8 := Nat.pow_add 2 4000 3
  rw [e]
  generalize 2 ^ 4000 = N at *
  omega

/-! ### objects: methods, making -/
def CalM (P : Program) (w : World) (K : PySem.W.Frag) (mg : Str → Option Value) (base : Heap) (k : Nat) (C : Addr) (m : Str) (ps : List Str) (sp : Sp) : Prop :=
  ∃ (f : Addr) (fd : FuncData), Meth K C m f ∧ Binds K fd ps [] ∧ FnOk P w K mg base CX0 k f fd ps sp
def CalMK (P : Program) (w : World) (K : PySem.W.Frag) (mg : Str → Option Value) (base : Heap) (k : Nat) (C : Addr) (m : Str) (ps ks : List Str) (gV : List V → List V → List V) (sp : Sp) : Prop :=
  ∃ (f : Addr) (fd : FuncData) (g : List Value → List Value → List Value), Meth K C m f ∧ KBn K fd ps 1 ks g gV ∧ FnOk P w K mg base CX0 k f fd ps sp
def CalC (P : Program) (w : World) (K : PySem.W.Frag) (mg : Str → Option Value) (base : Heap) (k : Nat) (x : Str) (C : Addr) (ps : List Str) (dvs : List V) (sp : Sp) : Prop :=
  ∃ (f : Addr) (fd : FuncData) (ds : List Value), Mk K C f ∧ mg x = some (.ref C) ∧ Vals dvs ds ∧ Binds K fd ps ds ∧ FnOk P w K mg base CX0 k f fd ps sp
section
variable {X : Cx} {k j : Nat} {C : Addr} {m x : Str} {ps ks : List Str} {dvs : List V} {sp : Sp} {o e : Expr} {es : List Expr} {ta : TE} {t tk : TA} {apos p pos : Pos} {gV : List V → List V → List V} {kws : List Keyword}
theorem pe_calm {pl : Sem Bool} (he : PE X o ta) (c : Cls X.K C) (h : CalM X.prog X.w X.K X.mg X.base k C m ps sp) (hr : Room j X.A) (ha : PA X (e :: es) t) (hle : k ≤ j := by decide)
    (hst : starEach (e :: es) X.env = (false, eval e X.env) :: starEach es X.env := by rfl) (hpl : (backTo pos (starEach es X.env)).any (·.1) = false := by rfl)
    (ht : eval (.Call (.Attribute o m apos) (e :: es) [] pos) X.env = (do
      let ov ← eval o X.env
      standAt apos.atName
      let (f, first) ← holding [ov] (getMethod ov m pl)
      callWith pos f first (backTo pos (starEach (e :: es) X.env)) (backToKw pos (keywordEach [] X.env))) := by rfl) :
    PE X (.Call (.Attribute o m apos) (e :: es) [] pos) (tMeth C m sp [] E0 ta t) := by
  obtain ⟨f, fd, h1, h2, h3⟩ := h
  exact pe_meth he c h1 h3 (hr.mono hle) h2 .nil pass0 ha hst hpl ht
theorem pe_calm0 {pl : Sem Bool} (he : PE X o ta) (c : Cls X.K C) (h : CalM X.prog X.w X.K X.mg X.base k C m ps sp) (hr : Room j X.A) (hle : k ≤ j := by decide)
    (ht : eval (.Call (.Attribute o m apos) [] [] pos) X.env = (do
      let ov ← eval o X.env
      standAt apos.atName
      let (f, first) ← holding [ov] (getMethod ov m pl)
      callWith pos f first (backTo pos (starEach [] X.env)) (backToKw pos (keywordEach [] X.env))) := by rfl) :
    PE X (.Call (.Attribute o m apos) [] [] pos) (tMeth C m sp [] E0 ta tNil) := by
  obtain ⟨f, fd, h1, h2, h3⟩ := h
  exact pe_meth0 he c h1 h3 (hr.mono hle) h2 .nil pass0 ht
def tMethK (C : Addr) (m : Str) (n : Nat) (sp : Sp) (gV : List V → List V → List V) (ta : TE) (tk : TA) : TE := fun σ H Q => ta σ H fun x H1 => ∃ a dx fs, x = .ref a ∧ H1 a = some (.ins C dx fs) ∧ fs.lookup m = none ∧
  tk σ H1 fun zs H2 => zs.length = n ∧ sp (gV [x] zs) H2 Q E0
theorem pe_calmk0 {pl : Sem Bool} (he : PE X o ta) (c : Cls X.K C) (h : CalMK X.prog X.w X.K X.mg X.base k C m ps ks gV sp) (hr : Room j X.A) (hkw : PK X kws tk) (hle : k ≤ j := by decide)
    (hall : (backToKw pos (keywordEach kws X.env)).all (·.1.isSome) = true := by rfl) (hks : (backToKw pos (keywordEach kws X.env)).filterMap (·.1) = ks := by rfl)
    (hpl : ((backTo pos (starEach [] X.env)).any (·.1) || (backToKw pos (keywordEach kws X.env)).any (·.1.isNone)) = false := by rfl)
    (ht : eval (.Call (.Attribute o m apos) [] kws pos) X.env = (do
      let ov ← eval o X.env
      standAt apos.atName
      let (f, first) ← holding [ov] (getMethod ov m pl)
      callWith pos f first (backTo pos (starEach [] X.env)) (backToKw pos (keywordEach kws X.env))) := by rfl) :
    PE X (.Call (.Attribute o m apos) [] kws pos) (tMethK C m ks.length sp gV ta tk) := by
  obtain ⟨f, fd, g, hm, hb, F⟩ := h
  refine ⟨fun pins s σ H Q I h => ?_⟩
  refine PySem.W.methodCall_KW (pl := pl) (thn (he.run pins s σ H _ I h) fun u s1 ⟨x, H1, I1, rx, a, dx, fs, ex, ea, l, q⟩ => ?_) ht
  subst ex
  obtain rfl : u = Value.ref a := rx
  refine getmeth_ok I1 ea c hm l ?_
  refine PySem.W.callWith_KW0 (first := [.ref a]) (h₀ := X.base) I.ok.mod.kin hm.kp hall (thn (hkw.run pos pins s1 σ H1 _ I1 q) fun ws s2 ⟨zs, H2, I2, rz, l2, q2⟩ => ⟨I2.kIn, ?_⟩) hpl
  rw [hks]
  exact run_fnN (vs := [.ref a]) (us := [.ref a]) F (hr.mono hle) hb pass0 I2 (.cons rfl .nil) rz rfl l2 q2
theorem pe_calc (h : CalC X.prog X.w X.K X.mg X.base k x C ps dvs sp) (hr : Room j X.A) (ha : PA X (e :: es) t) (hle : k + 1 ≤ j := by decide) (hg : Gl X x := by rfl)
    (hdb : (x == ("__debug__" : Str)) = false := by decide) (he : starEach (e :: es) X.env = (false, eval e X.env) :: starEach es X.env := by rfl) (hpl : (backTo pos (starEach es X.env)).any (·.1) = false := by rfl) :
    PE X (.Call (.Name x p) (e :: es) [] pos) (tMake C sp dvs E0 t) := by
  obtain ⟨f, fd, ds, h1, h2, h3, h4, h5⟩ := h
  exact pe_make h1 h5 (hr.mono hle) hg h2 h4 h3 pass0 ha hdb he hpl
end
/-! ### forms -/
def wV : Option Int → V
  | none => .non
  | some w => .int w
def endS : Bool → Str
  | true => "stop"
  | false => "wrap"
def flds (w : Option Int) (pt : Int) (m : Mn) (st : Bool) : List (Str × V) := [("width", wV w), ("point", .int pt), ("manner", .str m.str), ("ends", .str (endS st))]
def WOk (w : Option Int) : Prop := ∀ x, w = some x → 2 ≤ x ∧ x ≤ 64
structure FormAt (C : Addr) (H : Hp) (p : Addr) (w : Option Int) (pt : Int) (m : Mn) (st : Bool) : Prop where
  ob : ∃ dx, H p = some (.ins C dx (flds w pt m st))
  wo : WOk w
  p0 : -64 ≤ pt
  p1 : pt ≤ 64
theorem FormAt.same {C : Addr} {H H' : Hp} {p : Addr} {w : Option Int} {pt : Int} {m : Mn} {st : Bool} (f : FormAt C H p w pt m st) (s : Same H H') : FormAt C H' p w pt m st := by
  obtain ⟨⟨dx, h⟩, a, b, c⟩ := f
  exact ⟨⟨dx, s _ _ h⟩, a, b, c⟩
theorem nPW : (("point" : Str) == "width") = false := by decide +kernel
theorem nMW : (("manner" : Str) == "width") = false := by decide +kernel
theorem nMP : (("manner" : Str) == "point") = false := by decide +kernel
theorem nEW : (("ends" : Str) == "width") = false := by decide +kernel
theorem nEP : (("ends" : Str) == "point") = false := by decide +kernel
theorem nEM : (("ends" : Str) == "manner") = false := by decide +kernel
section
variable {w : Option Int} {pt : Int} {m : Mn} {st : Bool}
theorem fl_w : (flds w pt m st).lookup ("width" : Str) = some (wV w) := by
  unfold flds
  rw [List.lookup_cons, beq_self_eq_true]
theorem fl_p : (flds w pt m st).lookup ("point" : Str) = some (.int pt) := by
  unfold flds
  rw [List.lookup_cons, nPW, List.lookup_cons, beq_self_eq_true]
theorem fl_m : (flds w pt m st).lookup ("manner" : Str) = some (.str m.str) := by
  unfold flds
  rw [List.lookup_cons, nMW, List.lookup_cons, nMP, List.lookup_cons, beq_self_eq_true]
theorem fl_e : (flds w pt m st).lookup ("ends" : Str) = some (.str (endS st)) := by
  unfold flds
  rw [List.lookup_cons, nEW, List.lookup_cons, nEP, List.lookup_cons, nEM, List.lookup_cons, beq_self_eq_true]
theorem fl_no {x : Str} (h : [(x == "width"), (x == "point"), (x == "manner"), (x == "ends")] = [false, false, false, false]) : (flds w pt m st).lookup x = none := by
  have h1 : (x == "width") = false := (List.cons.inj h).1
  have h2 : (x == "point") = false := (List.cons.inj (List.cons.inj h).2).1
  have h3 : (x == "manner") = false := (List.cons.inj (List.cons.inj (List.cons.inj h).2).2).1
  have h4 : (x == "ends") = false := (List.cons.inj (List.cons.inj (List.cons.inj (List.cons.inj h).2).2).2).1
  unfold flds
  rw [List.lookup_cons, h1, List.lookup_cons, h2, List.lookup_cons, h3, List.lookup_cons, h4]
  rfl
theorem ne_of_beq {a b : Str} (h : (b == a) = false) : ¬ a = b := fun e => by
  rw [e, beq_self_eq_true] at h
  cases h
theorem fl_put {a b c d : V} : putF "ends" d (putF "manner" c (putF "point" b (putF "width" a []))) = [(("width" : Str), a), ("point", b), ("manner", c), ("ends", d)] := by
  simp only [putF, if_neg (ne_of_beq nPW), if_neg (ne_of_beq nMW), if_neg (ne_of_beq nMP), if_neg (ne_of_beq nEW), if_neg (ne_of_beq nEP), if_neg (ne_of_beq nEM)]
end
/-- what the walk asks of the class and of the module's constants -/
structure FTxt (K : PySem.W.Frag) (mg : Str → Option Value) (C : Addr) : Prop where
  cl : Cls K C
  nW : NoAttr K C "width"
  nP : NoAttr K C "point"
  nM : NoAttr K C "manner"
  nE : NoAttr K C "ends"
structure FCst (K : PySem.W.Frag) (mg : Str → Option Value) (aE : Addr) : Prop where
  lw : ∃ t, mg "LEAST_WIDTH_forms" = some (.int 2 t)
  gw : ∃ t, mg "GREATEST_WIDTH" = some (.int 64 t)
  gp : ∃ t, mg "GREATEST_POINT" = some (.int 64 t)
  e : mg "ENDS" = some (.ref aE)
  eT : ∀ H, SqT K H aE [.str "wrap", .str "stop"]
def two (n : Int) : Int := 2 ^ n.toNat
def lst (x : Int) : Int := -(two (x - 1))
def grt (x : Int) : Int := two (x - 1) - 1
def lstV : Option Int → V
  | none => .non
  | some x => .int (lst x)
def grtV : Option Int → V
  | none => .non
  | some x => .int (grt x)
def inR : Option Int → Int → Bool
  | none, _ => true
  | some x, n => decide (lst x ≤ n) && decide (n ≤ grt x)
def nearB : Mn → Bool
  | .half => true
  | .even => true
  | .far => true
  | _ => false
/-- the word as which a whole number of steps is kept -/
def wordF (w : Option Int) (st : Bool) (n : Int) : Int := match w with
  | none => n
  | some x => if inR (some x) n = true then n else if st = true then (if n < 0 then lst x else grt x) else (n - lst x) % two x + lst x
def spWidth : Sp := fun vs H Q _ => ∃ w : Option Int, vs = [wV w] ∧ WOk w ∧ Q (.bl true) H
def spPoint : Sp := fun vs H Q _ => ∃ p : Int, vs = [.int p] ∧ -64 ≤ p ∧ p ≤ 64 ∧ Q (.bl true) H
def spEnds : Sp := fun vs H Q _ => ∃ st : Bool, vs = [.str (endS st)] ∧ Q (.bl true) H
def spInit (C : Addr) : Sp := fun vs H Q _ => ∃ (p dx : Addr) (w : Option Int) (pt : Int) (m : Mn) (st : Bool), vs = [.ref p, wV w, .int pt, .str m.str, .str (endS st)] ∧ WOk w ∧ -64 ≤ pt ∧ pt ≤ 64 ∧ H p = some (.ins C dx []) ∧
  ∀ H', FormAt C H' p w pt m st → (∀ b o, b ≠ p → H b = some o → H' b = some o) → (∀ b, b ≠ p → H b = none → H' b = none) → Q .non H'
def spF (C : Addr) (r : Option Int → Int → Mn → Bool → Hp → VK → Prop) : Sp := fun vs H Q _ => ∃ (p : Addr) (w : Option Int) (pt : Int) (m : Mn) (st : Bool), vs = [.ref p] ∧ FormAt C H p w pt m st ∧ r w pt m st H Q
def spLeast (C : Addr) : Sp := spF C fun w _ _ _ H Q => Q (lstV w) H
def spGreatest (C : Addr) : Sp := spF C fun w _ _ _ H Q => Q (grtV w) H
def spStep (C : Addr) : Sp := spF C fun _ pt _ _ H Q => ∀ p, H p = none → Q (.ref p) (upd H p (.tup [.int (twoT (-pt)), .int (twoB (-pt))]))
def spSlack (C : Addr) : Sp := spF C fun _ _ m _ H Q => ∀ p, H p = none → Q (.ref p) (upd H p (.tup [.int 1, .int (if nearB m = true then 2 else 1)]))
def spHas (K : PySem.W.Frag) (C : Addr) : Sp := fun vs H Q _ => ∃ (p : Addr) (w : Option Int) (pt : Int) (m : Mn) (st : Bool) (x : V) (b : Bool), vs = [.ref p, x] ∧ FormAt C H p w pt m st ∧ ((∃ n, x = .int n ∧ b = inR w n) ∨ (WholeIs K H x false ∧ b = false)) ∧ Q (.bl b) H
def spWord (C : Addr) : Sp := fun vs H Q _ => ∃ (p : Addr) (w : Option Int) (pt : Int) (m : Mn) (st : Bool) (n : Int), vs = [.ref p, .int n] ∧ FormAt C H p w pt m st ∧ Q (.int (wordF w st n)) H
/-- how many steps a value is, rounded -/
def steps (pt : Int) (m : Mn) (t b : Int) : Int := m.f (lowT (t * twoB (-pt)) (b * twoT (-pt))) (lowB (t * twoB (-pt)) (b * twoT (-pt)))
def spKept (K : PySem.W.Frag) (C : Addr) : Sp := fun vs H Q _ => ∃ (p : Addr) (w : Option Int) (pt : Int) (m : Mn) (st : Bool) (a : Addr) (t b : Int), vs = [.ref p, .ref a] ∧ FormAt C H p w pt m st ∧ SqT K H a [.int t, .int b] ∧ 0 < b ∧ t.natAbs < 2 ^ 1500 ∧ b.natAbs < 2 ^ 1500 ∧
  ∀ (r : Addr) (H' : Hp), H r = none → Same H H' → H' r = some (.tup [.int (wordF w st (steps pt m t b)), .int (steps pt m t b - wordF w st (steps pt m t b))]) → Q (.ref r) H'
theorem two_pos (n : Int) : 0 < two n := by
  unfold two
  exact Int.pow_pos (by decide)
theorem twoT_pos (n : Int) : 0 < twoT n := by
  unfold twoT
  split
  · decide
  · exact Int.pow_pos (by decide)
theorem twoB_pos (n : Int) : 0 < twoB n := by
  unfold twoB
  split
  · exact Int.pow_pos (by decide)
  · decide
theorem two_lt {n : Int} {k : Nat} (h : n.toNat < k) : (2 ^ n.toNat : Int).natAbs < 2 ^ k := by
  rw [Int.natAbs_pow]
  exact Nat.pow_lt_pow_right (by decide) h
theorem twoT_lt {n : Int} (h1 : n ≤ 64) : (twoT n).natAbs < 2 ^ 65 := by
  unfold twoT
  split
  · decide
  · exact two_lt (by omega)
theorem twoB_lt {n : Int} (h1 : -64 ≤ n) : (twoB n).natAbs < 2 ^ 65 := by
  unfold twoB
  split
  · exact two_lt (by omega)
  · decide
theorem low_pos' {t b : Int} (hb : b ≠ 0) : 0 < lowB t b := by
  have g0 := gI_pos (t := t) hb
  have g1 := gI_le (t := t) hb
  have : 1 ≤ lowB t b := by
    unfold lowB
    refine (Int.le_ediv_iff_mul_le g0).mpr ?_
    split <;> omega
  omega
theorem lowT_le {t b : Int} : (lowT t b).natAbs ≤ t.natAbs := by
  unfold lowT
  refine Nat.le_trans (Int.natAbs_ediv_le_natAbs _ _) ?_
  split <;> omega
theorem lowB_le {t b : Int} : (lowB t b).natAbs ≤ b.natAbs := by
  unfold lowB
  refine Nat.le_trans (Int.natAbs_ediv_le_natAbs _ _) ?_
  split <;> omega

/-! ### widths -/
def szI (n : Int) : Int := if n ≥ 0 then n else -n - 1
def bitsI (n : Int) : Int := ((Builtin.Int.intBits (szI n) : Nat) : Int) + 1
def widI (n : Int) : Int := if bitsI n > 2 then bitsI n else 2
theorem szI_nn (n : Int) : 0 ≤ szI n := by
  unfold szI
  split <;> omega
theorem bits_iff (s : Int) (h : 0 ≤ s) (k : Nat) : Builtin.Int.intBits s ≤ k ↔ s < 2 ^ k := by
  unfold Builtin.Int.intBits
  by_cases c : s = 0
  · rw [c, if_pos (by decide)]
    have : (0 : Int) < 2 ^ k := Int.pow_pos (by decide)
    omega
  · rw [if_neg (by simpa using c)]
    have e : ((2 ^ k : Nat) : Int) = (2 : Int) ^ k := by rw [Int.natCast_pow]; rfl
    have l : s.natAbs.log2 < k ↔ s.natAbs < 2 ^ k := Nat.log2_lt (by omega)
    constructor
    · intro h1
      have := l.mp (by omega)
      omega
    · intro h1
      have := l.mpr (by omega)
      omega
/-- whether a width has room for a number -/
def roomB (wd n : Int) : Bool := decide (0 - 2 ^ (wd - 1).toNat ≤ n) && decide (n < 2 ^ (wd - 1).toNat)
theorem room_iff {wd n : Int} (h : 1 ≤ wd) : roomB wd n = true ↔ bitsI n ≤ wd := by
  unfold roomB bitsI
  have b := bits_iff (szI n) (szI_nn n) (wd - 1).toNat
  have e : (((Builtin.Int.intBits (szI n) : Nat) : Int) + 1 ≤ wd) ↔ Builtin.Int.intBits (szI n) ≤ (wd - 1).toNat := by omega
  rw [e, b]
  simp only [Bool.and_eq_true, decide_eq_true_eq]
  unfold szI
  generalize (2 : Int) ^ (wd - 1).toNat = p
  split <;> omega
theorem wid_ge (n : Int) : 2 ≤ widI n ∧ bitsI n ≤ widI n := by
  unfold widI
  split <;> omega
theorem wid_room {wd n : Int} (h : widI n ≤ wd) : roomB wd n = true := by
  have := wid_ge n
  exact (room_iff (by omega)).mpr (by omega)
theorem wid_not {wd n : Int} (h : wd < widI n) (h1 : 2 ≤ wd) : roomB wd n = false := by
  cases e : roomB wd n with
  | false => rfl
  | true =>
    have := (room_iff (by omega)).mp e
    unfold widI at h
    split at h <;> omega
def maxI (a b : Int) : Int := if b > a then b else a
theorem max_facts (a b : Int) : a ≤ maxI a b ∧ b ≤ maxI a b ∧ (maxI a b = a ∨ maxI a b = b) := by
  unfold maxI
  split <;> omega
theorem dot_bound (B : Nat) : ∀ (xs ys : List Int), (∀ x ∈ xs, x.natAbs < 1000000000000000000) → (∀ y ∈ ys, y.natAbs ≤ B) → (dotI xs ys).natAbs ≤ xs.length * (1000000000000000000 * B)
  | [], _, _, _ => by simp [dotI]
  | _ :: _, [], _, _ => by simp [dotI]
  | x :: xs, y :: ys, hx, hy => by
    have i := dot_bound B xs ys (fun z hz => hx z (List.mem_cons_of_mem _ hz)) (fun z hz => hy z (List.mem_cons_of_mem _ hz))
    have h1 := hx x List.mem_cons_self
    have h2 := hy y List.mem_cons_self
    show (x * y + dotI xs ys).natAbs ≤ (xs.length + 1) * (1000000000000000000 * B)
    have m : (x * y).natAbs ≤ 1000000000000000000 * B := by
      rw [Int.natAbs_mul]
      exact Nat.mul_le_mul (by omega) h2
    rw [Nat.add_mul, Nat.one_mul]
    generalize xs.length * (1000000000000000000 * B) = u at *
    generalize 1000000000000000000 * B = v at *
    generalize x * y = t at *
    omega
theorem bits_small {n : Int} (h : n.natAbs < 2 ^ 200) : bitsI n ≤ 300 := by
  have := PyProof.Rows.intBits_le (a := szI n) (k := 200) (by
    unfold szI
    split <;> omega)
  unfold bitsI
  omega
/-- the sum of taps and words of a width is small -/
theorem pick_small (x : Int) (h1 : 2 ≤ x) (h2 : x ≤ 64) (f : Int → Bool) (xs : List Int) (hs : Small xs) : (dotI xs (pick (lst x) (grt x) f xs)).natAbs < 2 ^ 200 := by
  have b : ∀ y ∈ pick (lst x) (grt x) f xs, y.natAbs ≤ 2 ^ 64 := fun y hy => by
    unfold pick at hy
    obtain ⟨t, _, rfl⟩ := List.mem_map.mp hy
    have hp : (2 : Int) ^ (x - 1).toNat ≤ 2 ^ 63 := by
      have := Nat.pow_le_pow_right (n := 2) (by decide) (show (x - 1).toNat ≤ 63 by omega)
      exact_mod_cast this
    have h0 : (0 : Int) < 2 ^ (x - 1).toNat := Int.pow_pos (by decide)
    unfold lst grt two
    generalize (2 : Int) ^ (x - 1).toNat = p at *
    split <;> omega
  have d := dot_bound (2 ^ 64) xs _ hs.2 b
  have hl := hs.1
  have : xs.length * (1000000000000000000 * 2 ^ 64) ≤ 40 * (1000000000000000000 * 2 ^ 64) := Nat.mul_le_mul_right _ hl
  exact Nat.lt_of_le_of_lt (Nat.le_trans d this) (by decide)
theorem lst_grt {x : Int} (h1 : 2 ≤ x) : lst x ≤ grt x := by
  have h0 : (0 : Int) < 2 ^ (x - 1).toNat := Int.pow_pos (by decide)
  unfold lst grt two
  generalize (2 : Int) ^ (x - 1).toNat = p at *
  omega
def spWid : Sp := fun vs H Q _ => ∃ n : Int, vs = [.int n] ∧ Q (.int (widI n)) H
structure FX (K : PySem.W.Frag) (mg : Str → Option Value) (C : Addr) : Prop where
  gC : mg "Form" = some (.ref C)
  ha : PySem.W.findIn K (.ref C) "__class__" = some (some (.builtin "object.__class__"))
  hn : PySem.W.specialIn K (.builtin "object.__class__") "__get__" = some (some (.builtin "getset_descriptor.__get__"))
  ht : PySem.W.takesIn K (.builtin "object.__class__") = some true
  hm : PySem.W.mroIn K C (.type "object") = some true
  kC : PySem.W.kitOne K (.ref C) (.ref C) = some true
abbrev sLow (x : Int) (ns : List Int) : Int := dotI ns (lowR (lst x) (grt x) ns)
abbrev sUp (x : Int) (ns : List Int) : Int := dotI ns (upR (lst x) (grt x) ns)
abbrev gW (x : Int) (ns : List Int) : Int := maxI (widI (sLow x ns)) (widI (sUp x ns))
/-- a tuple of the width and None, or a row of its own -/
def spGuard (C : Addr) : Sp := fun vs H Q _ => ∃ (a p : Addr) (ns : List Int) (x pt : Int) (m : Mn) (st : Bool), vs = [.ref a, .ref p] ∧ H a = some (.lst (ns.map V.int)) ∧ Small ns ∧ 1 ≤ ns.length ∧ FormAt C H p (some x) pt m st ∧
  (gW x ns = 2 → ∀ t H', H t = none → Same H H' → H' t = some (.tup [.int (gW x ns), .non]) → Q (.ref t) H') ∧
  (gW x ns ≠ 2 → ∀ t b H', H t = none → H b = none → b ≠ t → Same H H' → H' t = some (.tup [.int (gW x ns), .ref b]) → H' b = some (.lst ((if widI (sUp x ns) = gW x ns then upR (lst x) (grt x) ns else lowR (lst x) (grt x) ns).reverse.map V.int)) → Q (.ref t) H')
theorem iteC {c d : Bool} {A B : Prop} (e : c = d) (h : if d = true then A else B) : if c = true then A else B := e ▸ h

end E1

namespace E1
open PySem PySem.Spec PyProof.Rows L2
section
variable {P : Program} {w : World} {K : PySem.W.Frag} {mg : Str → Option Value} {base : Heap}
theorem sc_is_whole : FnScope ["thing"] ["thing"] (defScope s_is_whole) := ⟨rfl, rfl, rfl, by decide +kernel, rfl, by decide +kernel, by decide +kernel⟩
theorem ok_is_whole {f : Addr} {fd : FuncData} {k : Nat} (F : Fun K "is_whole" "is_whole" s_is_whole f fd) (z : Zs mg) : FnOk P w K mg base CX0 (k + 1) f fd ["thing"] (spWhole K) := by
  refine F.ok sc_is_whole (fun vs H Q E h => ?_) (fun cdv A outer s H vs Q E hr h => ?_)
  · obtain ⟨x, b, rfl, _⟩ := h
    rfl
  · obtain ⟨x, b, rfl, hw, q⟩ := h
    refine ⟨_, (pss_one (ps_ret (pe_and (pe_callB call_isi (by rfl) z.isinstance (by decide +kernel) (pa_cons (pv 0) (pa_cons (pe_bltn (v := .ty "int") (by rfl) z.int (by decide +kernel) rfl) pa_nil))) (pe_one (pe_not (pe_callB call_isi (by rfl) z.isinstance (by decide +kernel) (pa_cons (pv 0) (pa_cons (pe_bltn (v := .ty "bool") (by rfl) z.bool (by decide +kernel) rfl) pa_nil)))))))), ?_⟩
    rcases hw with ⟨i, rfl, rfl⟩ | ⟨c, rfl, rfl⟩ | ⟨rfl, t, ty, kt⟩
    · exact ⟨_, rfl, _, .ty "int", _, _, true, rfl, .ty _, .base (.int i), kit_ty (by decide +kernel), _, rfl, iteT ⟨_, rfl, _, .ty "bool", _, _, false, rfl, .ty _, .base (.int i), kit_ty (by decide +kernel), _, rfl, q⟩⟩
    · exact ⟨_, rfl, _, .ty "int", _, _, true, rfl, .ty _, .base (.bl c), kit_ty (by decide +kernel), _, rfl, iteT ⟨_, rfl, _, .ty "bool", _, _, true, rfl, .ty _, .base (.bl c), kit_ty (by decide +kernel), _, rfl, q⟩⟩
    · exact ⟨_, rfl, _, .ty "int", _, _, false, rfl, .ty _, ty, kit_ty kt, _, rfl, iteF q⟩
theorem sc_is_numbers : FnScope ["thing", "least", "most", "number"] ["thing", "least", "most"] (defScope s_is_numbers) := ⟨rfl, rfl, rfl, by decide +kernel, rfl, by decide +kernel, by decide +kernel⟩
theorem ok_is_numbers {f : Addr} {fd : FuncData} (F : Fun K "is_numbers" "is_numbers" s_is_numbers f fd) (z : Zs mg) (tk : Tok) (g_NUMBER_END : mg "NUMBER_END" = some (.int 1000000000000000000 tk)) (c_is_whole : Cal P w K mg base 1 "is_whole" ["thing"] (spWhole K)) : FnOk P w K mg base CX0 2 f fd ["thing", "least", "most"] spNums := by
  refine F.ok sc_is_numbers (fun vs H Q E h => ?_) (fun cdv A outer s H vs Q E hr h => ?_)
  · obtain ⟨a, ns, lo, hi, rfl, _⟩ := h
    rfl
  · obtain ⟨a, ns, lo, hi, rfl, ha, hs, h1, h2, q⟩ := h
    refine ⟨_, (pss_cons (ps_if (PW.pt (pw_or (pt_not (pt_val (pe_callB call_isi (by rfl) z.isinstance (by decide +kernel) (pa_cons (pv 0) (pa_cons (pe_bltn (v := .ty "list") (by rfl) z.list (by decide +kernel) rfl) pa_nil))))) (pw_or1 (pt_not (pt_chain op_le op_le (pv 1) (pe_callB call_len_seq (by rfl) z.len PySem.boot_len (pa_cons (pv 0) pa_nil)) (pv 2)))))) (pss_one (ps_ret pe_bl)) pss_nil)
      (pss_one (ps_ret (pe_callB (cr_all rfl) (by rfl) z.all (by decide +kernel) (pa_cons (pe_lc (own := [("number", 3)]) (g := gName 3) (tt := tYes) (te := (tAndV (tCall (spWhole K) [] E0 (tCons (tVar 3) tNil)) (tOp (rI0 fun i j => V.bl (decide (i < j))) (tCB (fun xs H Q => ∃ i, xs = [V.int i] ∧ Q (.int (if i < 0 then -i else i)) H) (tCons (tVar 3) tNil)) (tC (.int 1000000000000000000))))) (by rfl) sc_is_numbers.nd (pi_list (pv 0)) (blkOk_by (own := [("number", 3)]) (N := ["thing", "least", "most", "number"]) (sc := defScope s_is_numbers) (by decide +kernel)) (fun _ _ _ _ _ => by exact (pg_name (i := 3) sc_is_numbers.nd rfl (.inl rfl))) (fun _ _ _ _ _ => by exact pts_nil) (fun _ _ _ _ _ => by exact (pe_and (pe_cal c_is_whole hr (pa_cons (pv 3) pa_nil)) (pe_one (pe_cmpR op_lt (pe_callB call_abs (by rfl) z.abs (by decide +kernel) (pa_cons (pv 3) pa_nil)) (pe_glob (v := .int 1000000000000000000) (by rfl) g_NUMBER_END ⟨_, rfl⟩) (nomark _)))))) pa_nil))))), ?_⟩
    refine ⟨_, rfl, _, .ty "list", _, _, true, rfl, .ty _, .base (.lst ha), kit_ty (by decide +kernel), _, rfl, iteF ?_⟩
    have c1 : decide (lo ≤ (((ns.map V.int).length : Nat) : Int)) = true := decide_eq_true (by rw [List.length_map]; exact h1)
    have c2 : decide ((((ns.map V.int).length : Nat) : Int) ≤ hi) = true := decide_eq_true (by rw [List.length_map]; exact h2)
    refine ⟨_, rfl, _, rfl, a, _, rfl, .inl (SqL.of ha), _, _, rfl, rfl, _, rfl, ?_⟩
    rw [c1]
    refine iteT ⟨_, rfl, _, _, rfl, rfl, _, rfl, ?_⟩
    rw [c2]
    refine iteF ?_
    refine ⟨_, rfl, a, rfl, ⟨_, SqL.of ha⟩, fun D hD => lc_list (K := K) (a := a) (xs := ns.map V.int) (fun i H' => Same H H' ∧ H' D = some (.lst (List.replicate i (V.bl true)))) ⟨same_new hD, upd_same⟩ (fun i H' _ hP => SqL.of (hP.1 _ _ ha)) (fun i x H' hx hP => ?_) (fun H' hP => ?_)⟩
    · obtain ⟨s1, hacc⟩ := hP
      rw [List.getElem?_map] at hx
      obtain ⟨n, hi', rfl⟩ := Option.map_eq_some_iff.mp hx
      have hn := hs.2 n (List.mem_of_getElem? hi')
      have hlt := (List.getElem?_eq_some_iff.mp hi').1
      have hl := hs.1
      have e0 : (if n < 0 then -n else n) < 1000000000000000000 := by split <;> omega
      refine ⟨rfl, _, rfl, _, true, rfl, .int n, _, rfl, iteT ⟨_, rfl, _, rfl, _, _, rfl, rfl, ?_⟩⟩
      dsimp only
      rw [decide_eq_true e0]
      refine ⟨_, hacc, ?_, fun b o e => ?_, ?_⟩
      · rw [List.length_replicate]
        exact small1000 (by omega)
      · rw [upd_ne (ne_of_none e hD)]
        exact s1 _ _ e
      · rw [upd_same, rep_more]
    · obtain ⟨s1, hacc⟩ := hP
      refine ⟨D, List.replicate _ true, rfl, SqL.of (by rw [rep_map]; exact hacc), ?_⟩
      rw [rep_all]
      exact q _ s1
theorem sc_dot : FnScope ["numbers", "others", "number", "other"] ["numbers", "others"] (defScope s_dot) := ⟨rfl, rfl, rfl, by decide +kernel, rfl, by decide +kernel, by decide +kernel⟩
theorem ok_dot {f : Addr} {fd : FuncData} {k : Nat} (F : Fun K "dot" "dot" s_dot f fd) (z : Zs mg) : FnOk P w K mg base CX0 (k + 1) f fd ["numbers", "others"] spDot := by
  refine F.ok sc_dot (fun vs H Q E h => ?_) (fun cdv A outer s H vs Q E hr h => ?_)
  · obtain ⟨a, c, xs, ys, rfl, _⟩ := h
    rfl
  · obtain ⟨a, c, xs, ys, rfl, ha, hc, hs, hl, q⟩ := h
    refine ⟨_, (pss_one (ps_ret (pe_callB (cr_sum rfl) (by rfl) z.sum (by decide +kernel) (pa_cons (pe_lc (own := [("number", 2), ("other", 3)]) (g := gTup K 2 (gCons (gName 2) (gCons (gName 3) gNil))) (tt := tYes) (te := (tOp (rI CMul fun i j => V.int (i * j)) (tVar 2) (tVar 3))) (by rfl) sc_dot.nd (RZ.pi_zipA (by rfl) z.zip (pa_cons (pv 0) (pa_cons (pv 1) pa_nil))) (blkOk_by (own := [("number", 2), ("other", 3)]) (N := ["numbers", "others", "number", "other"]) (sc := defScope s_dot) (by decide +kernel)) (fun _ _ _ _ _ => by exact (pg_tup (by rfl) (pgs_cons (pg_name (i := 2) sc_dot.nd rfl (.inl rfl)) (pgs_cons (pg_name (i := 3) sc_dot.nd rfl (.inl rfl)) pgs_nil)))) (fun _ _ _ _ _ => by exact pts_nil) (fun _ _ _ _ _ => by exact (pe_op op_mul (pv 2) (pv 3)))) pa_nil)))), ?_⟩
    refine ⟨_, rfl, _, rfl, a, c, _, _, rfl, .inl ⟨SqL.of ha, SqL.of hc, fun D hD => ?_⟩⟩
    refine lc_it (walk_zip (K := K) (a := a) (b := c) (xs := xs.map V.int) (ys := ys.map V.int) rfl) (fun i H2 => Same H H2 ∧ H2 D = some (.lst ((prodI (xs.take i) (ys.take i)).map V.int))) ⟨same_new hD, upd_same⟩ (fun i H2 _ hP => ⟨SqL.of (hP.1 _ _ ha), SqL.of (hP.1 _ _ hc)⟩) (fun i x H2 H3 hi hP hY => ?_) (fun H2 hP => ?_)
    · obtain ⟨s1, hacc⟩ := hP
      obtain ⟨Tp, u, v, rfl, nT, rfl, e1, e2⟩ := hY
      replace e1 : (xs.map V.int)[i]? = some u := e1
      replace e2 : (ys.map V.int)[i]? = some v := e2
      rw [List.getElem?_map] at e1 e2
      obtain ⟨n, n1, rfl⟩ := Option.map_eq_some_iff.mp e1
      obtain ⟨m, m1, rfl⟩ := Option.map_eq_some_iff.mp e2
      have hn := hs.2 n (List.mem_of_getElem? n1)
      have li := (List.getElem?_eq_some_iff.mp n1).1
      have h40 := hs.1
      have sN := same_new (o := .tup [.int n, .int m]) nT
      have tl : (xs.take i).length = (ys.take i).length := by rw [List.length_take, List.length_take, hl]
      refine ⟨Tp, [.int n, .int m], rfl, SqT.of upd_same, rfl, _, _, rfl, _, _, rfl, rfl, rfl, ?_⟩
      refine ⟨_, rfl, _, rfl, _, _, rfl, rfl, .inl ⟨by omega, by omega⟩, _, sN _ _ hacc, ?_, fun b o e => ?_, ?_⟩
      · rw [List.length_map, prodI_len _ _ tl, List.length_take]
        exact small1000 (by omega)
      · rw [upd_ne (ne_of_none e hD)]
        exact sN _ _ (s1 _ _ e)
      · rw [upd_same, List.take_succ, List.take_succ, n1, m1, Option.toList_some, Option.toList_some, prodI_snoc _ _ _ _ tl, List.map_append]
        rfl
    · obtain ⟨s1, hacc⟩ := hP
      rw [List.length_map, List.length_map, ← hl, Nat.min_self, List.take_length, hl, List.take_length] at hacc
      refine ⟨D, _, rfl, SqL.of hacc, ?_⟩
      rw [prodI_sum]
      exact q _ s1
theorem sc_check_taps : FnScope ["taps"] ["taps"] (defScope s_check_taps) := ⟨rfl, rfl, rfl, by decide +kernel, rfl, by decide +kernel, by decide +kernel⟩
theorem ok_check_taps {f : Addr} {fd : FuncData} (F : Fun K "check_taps" "check_taps" s_check_taps f fd) (tk : Tok) (g_MOST_TAPS : mg "MOST_TAPS" = some (.int 40 tk)) (c_is_numbers : Cal P w K mg base 2 "is_numbers" ["thing", "least", "most"] spNums) : FnOk P w K mg base CX0 3 f fd ["taps"] spTaps := by
  refine F.ok sc_check_taps (fun vs H Q E h => ?_) (fun cdv A outer s H vs Q E hr h => ?_)
  · obtain ⟨a, ns, rfl, _⟩ := h
    rfl
  · obtain ⟨a, ns, rfl, ha, hs, h1, q⟩ := h
    refine ⟨_, (pss_one (ps_if (pt_not (pt_val (pe_cal c_is_numbers hr (pa_cons (pv 0) (pa_cons pe_int (pa_cons (pe_glob (v := .int 40) (by rfl) g_MOST_TAPS ⟨_, rfl⟩) pa_nil)))))) (pss_one ps_never) pss_nil)), ?_⟩
    have h40 := hs.1
    refine ⟨_, rfl, a, ns, 1, 40, rfl, ha, hs, by omega, by omega, fun H' s1 => ?_⟩
    exact ⟨_, rfl, iteF (q _ s1)⟩
theorem sc_extremes : FnScope ["taps", "low", "high", "least", "greatest", "tap"] ["taps", "low", "high"] (defScope s_extremes) := ⟨rfl, rfl, rfl, by decide +kernel, rfl, by decide +kernel, by decide +kernel⟩
theorem ok_extremes {f : Addr} {fd : FuncData} (F : Fun K "extremes" "extremes" s_extremes f fd) (z : Zs mg) (c_is_whole : Cal P w K mg base 1 "is_whole" ["thing"] (spWhole K)) (c_check_taps : Cal P w K mg base 3 "check_taps" ["taps"] spTaps) (c_dot : Cal P w K mg base 1 "dot" ["numbers", "others"] spDot) : FnOk P w K mg base CX0 4 f fd ["taps", "low", "high"] spExt := by
  refine F.ok sc_extremes (fun vs H Q E h => ?_) (fun cdv A outer s H vs Q E hr h => ?_)
  · obtain ⟨a, ns, l, h, rfl, _⟩ := h
    rfl
  · obtain ⟨a, ns, l, h, rfl, ha, hs, h1, hlh, q⟩ := h
    refine ⟨_, (pss_cons (ps_expr (pe_cal c_check_taps hr (pa_cons (pv 0) pa_nil)))
      (pss_cons (ps_if (PW.pt (pw_or (pt_not (pt_val (pe_cal c_is_whole hr (pa_cons (pv 1) pa_nil)))) (pw_or (pt_not (pt_val (pe_cal c_is_whole hr (pa_cons (pv 2) pa_nil)))) (pw_or1 (pt_cmpR op_gt (pv 1) (pv 2) (nomark _)))))) (pss_one ps_never) pss_nil)
      (pss_cons (ps_setLc (i := 3) (own := [("tap", 5)]) (g := gName 5) (tt := tYes) (te := (tIf (tTest (tOp (rI0 fun i j => V.bl (decide (i < j))) (tVar 5) (tC (.int 0)))) (tVar 2) (tVar 1))) (by rfl) sc_extremes.nd rfl rfl (sw_true rfl rfl rfl (by decide +kernel)) (pi_list (pv 0)) (blkOk_by (own := [("tap", 5)]) (N := ["taps", "low", "high", "least", "greatest", "tap"]) (sc := defScope s_extremes) (by decide +kernel)) (fun _ _ _ _ _ => by exact (pg_name (i := 5) sc_extremes.nd rfl (.inl rfl))) (fun _ _ _ _ _ => by exact pts_nil) (fun _ _ _ _ _ => by exact (pe_ifExp (pt_cmpR op_lt (pv 5) pe_int (nomark _)) (pv 2) (pv 1))))
      (pss_cons (ps_setLc (i := 4) (own := [("tap", 5)]) (g := gName 5) (tt := tYes) (te := (tIf (tTest (tOp (rI0 fun i j => V.bl (decide (i > j))) (tVar 5) (tC (.int 0)))) (tVar 2) (tVar 1))) (by rfl) sc_extremes.nd rfl rfl (sw_true rfl rfl rfl (by decide +kernel)) (pi_list (pv 0)) (blkOk_by (own := [("tap", 5)]) (N := ["taps", "low", "high", "least", "greatest", "tap"]) (sc := defScope s_extremes) (by decide +kernel)) (fun _ _ _ _ _ => by exact (pg_name (i := 5) sc_extremes.nd rfl (.inl rfl))) (fun _ _ _ _ _ => by exact pts_nil) (fun _ _ _ _ _ => by exact (pe_ifExp (pt_cmpR op_gt (pv 5) pe_int (nomark _)) (pv 2) (pv 1))))
      (pss_one (ps_ret (pe_tup (pa_cons (pe_cal c_dot hr (pa_cons (pv 0) (pa_cons (pv 3) pa_nil))) (pa_cons (pe_revL (pv 3)) (pa_cons (pe_cal c_dot hr (pa_cons (pv 0) (pa_cons (pv 4) pa_nil))) (pa_cons (pe_revL (pv 4)) pa_nil))))))))))), ?_⟩
    have h40 := hs.1
    refine ⟨_, rfl, a, ns, rfl, ha, hs, h1, fun H0 s0 => ?_⟩
    refine ⟨_, rfl, _, true, rfl, .int l, _, rfl, iteF ⟨_, rfl, _, true, rfl, .int h, _, rfl, iteF ⟨_, rfl, _, rfl, _, _, rfl, rfl, _, rfl, ite2 (fun c => absurd (toB c) (by omega)) (fun _ => ?_)⟩⟩⟩
    refine ⟨_, rfl, ?_⟩
    refine ⟨a, rfl, ⟨_, SqL.of (s0 _ _ ha)⟩, fun D0 hD0 => lc_list (K := K) (a := a) (xs := ns.map V.int) (fun i H' => Same H0 H' ∧ H' D0 = some (.lst ((pick l h (fun t => decide (t < 0)) (ns.take i)).map V.int))) ⟨same_new hD0, upd_same⟩ (fun i H' _ hP => SqL.of (hP.1 _ _ (s0 _ _ ha))) (fun i x H' hx hP => ?_) (fun H0' hP0 => ?_)⟩
    · obtain ⟨s1, hacc⟩ := hP
      rw [List.getElem?_map] at hx
      obtain ⟨n, hi', rfl⟩ := Option.map_eq_some_iff.mp hx
      have hlt := (List.getElem?_eq_some_iff.mp hi').1
      have fin : ∀ v : Int, v = (if decide (n < 0) = true then h else l) → ∃ acc, H' D0 = some (.lst acc) ∧ acc.length < sizeLine ∧ (Same H0 (upd H' D0 (.lst (acc ++ [.int v]))) ∧ (upd H' D0 (.lst (acc ++ [.int v]))) D0 = some (.lst ((pick l h (fun t => decide (t < 0)) (ns.take (i + 1))).map V.int))) := fun v hv => by
        refine ⟨_, hacc, ?_, fun b o e => ?_, ?_⟩
        · rw [List.length_map, pick_len, List.length_take]
          exact small1000 (by omega)
        · rw [upd_ne (ne_of_none e hD0)]
          exact s1 _ _ e
        · rw [upd_same, pick_snoc l h _ ns i n hi', List.map_append, hv]
          rfl
      refine ⟨rfl, _, rfl, _, _, rfl, rfl, _, rfl, ite2 (fun c => ⟨_, rfl, fin _ (by rw [if_pos c])⟩) (fun c => ⟨_, rfl, fin _ (by rw [if_neg c])⟩)⟩
    obtain ⟨s1, hb0⟩ := hP0
    rw [List.length_map, List.take_length] at hb0
    have S1 := s0.trans s1
    generalize hH1 : H0' = H1 at *
    refine ⟨_, rfl, ?_⟩
    refine ⟨a, rfl, ⟨_, SqL.of (S1 _ _ ha)⟩, fun D1 hD1 => lc_list (K := K) (a := a) (xs := ns.map V.int) (fun i H' => Same H1 H' ∧ H' D1 = some (.lst ((pick l h (fun t => decide (t > 0)) (ns.take i)).map V.int))) ⟨same_new hD1, upd_same⟩ (fun i H' _ hP => SqL.of (hP.1 _ _ (S1 _ _ ha))) (fun i x H' hx hP => ?_) (fun H1' hP1 => ?_)⟩
    · obtain ⟨s1, hacc⟩ := hP
      rw [List.getElem?_map] at hx
      obtain ⟨n, hi', rfl⟩ := Option.map_eq_some_iff.mp hx
      have hlt := (List.getElem?_eq_some_iff.mp hi').1
      have fin : ∀ v : Int, v = (if decide (n > 0) = true then h else l) → ∃ acc, H' D1 = some (.lst acc) ∧ acc.length < sizeLine ∧ (Same H1 (upd H' D1 (.lst (acc ++ [.int v]))) ∧ (upd H' D1 (.lst (acc ++ [.int v]))) D1 = some (.lst ((pick l h (fun t => decide (t > 0)) (ns.take (i + 1))).map V.int))) := fun v hv => by
        refine ⟨_, hacc, ?_, fun b o e => ?_, ?_⟩
        · rw [List.length_map, pick_len, List.length_take]
          exact small1000 (by omega)
        · rw [upd_ne (ne_of_none e hD1)]
          exact s1 _ _ e
        · rw [upd_same, pick_snoc l h _ ns i n hi', List.map_append, hv]
          rfl
      refine ⟨rfl, _, rfl, _, _, rfl, rfl, _, rfl, ite2 (fun c => ⟨_, rfl, fin _ (by rw [if_pos c])⟩) (fun c => ⟨_, rfl, fin _ (by rw [if_neg c])⟩)⟩
    obtain ⟨s2, hb1⟩ := hP1
    rw [List.length_map, List.take_length] at hb1
    have S2 := S1.trans s2
    have hb0' := s2 _ _ hb0
    refine ⟨_, rfl, _, rfl, a, D0, ns, _, rfl, S2 _ _ ha, hb0', hs, (pick_len _ _ _ _).symm, fun H3 s3 => ?_⟩
    refine ⟨_, rfl, D0, _, rfl, SqL.of (s3 _ _ hb0'), fun b hb => ?_⟩
    have s4 := s3.trans (same_new (o := .lst ((lowR l h ns).map V.int).reverse) hb)
    refine ⟨_, rfl, _, rfl, a, D1, ns, _, rfl, s4 _ _ (S2 _ _ ha), s4 _ _ hb1, hs, (pick_len _ _ _ _).symm, fun H5 s5 => ?_⟩
    refine ⟨_, rfl, D1, _, rfl, SqL.of (s5 _ _ (s4 _ _ hb1)), fun c hc => ?_⟩
    have s6 := s5.trans (same_new (o := .lst ((upR l h ns).map V.int).reverse) hc)
    refine ⟨(by show 4 ≤ sizeLine; decide), fun p hp => ?_⟩
    have s7 := s6.trans (same_new (o := .tup [.int (dotI ns (lowR l h ns)), .ref b, .int (dotI ns (upR l h ns)), .ref c]) hp)
    have bb : (upd H5 c (.lst ((upR l h ns).map V.int).reverse)) b = some (.lst ((lowR l h ns).map V.int).reverse) := s6 _ _ upd_same
    have nb : b ≠ p := ne_of_none bb hp
    have nbc : b ≠ c := ne_of_none (s5 _ _ upd_same) hc
    have nc : c ≠ p := ne_of_none upd_same hp
    refine q p b c _ ?_ ?_ ?_ nb ((S2.trans s3).trans (same_new hb |>.trans s7)) upd_same ?_ ?_ nbc
    · exact (S2.trans s3).free ((same_new (o := .lst ((lowR l h ns).map V.int).reverse) hb).free (s6.free hp))
    · exact (S2.trans s3).free hb
    · exact (S2.trans s3).free ((same_new (o := .lst ((lowR l h ns).map V.int).reverse) hb).free (s5.free hc))
    · rw [upd_ne nb, bb, List.map_reverse]
    · rw [upd_ne nc, upd_same, List.map_reverse]
theorem sc_downward : FnScope ["top", "bottom"] ["top", "bottom"] (defScope s_downward) := ⟨rfl, rfl, rfl, by decide +kernel, rfl, by decide +kernel, by decide +kernel⟩
theorem ok_downward {f : Addr} {fd : FuncData} {k : Nat} (F : Fun K "downward" "downward" s_downward f fd) : FnOk P w K mg base CX0 (k + 1) f fd ["top", "bottom"] (spRnd fDown) := by
  refine F.ok sc_downward (fun vs H Q E h => ?_) (fun cdv A outer s H vs Q E hr h => ?_)
  · obtain ⟨t, b, rfl, _⟩ := h
    rfl
  · obtain ⟨t, b, rfl, hb, ht, hl, q⟩ := h
    refine ⟨_, (pss_one (ps_ret (pe_op op_fdivW (pv 0) (pv 1)))), ?_⟩
    exact ⟨_, rfl, _, rfl, _, _, rfl, rfl, wide_div hb hl (by decide) (by decide), q⟩
theorem sc_upward : FnScope ["top", "bottom"] ["top", "bottom"] (defScope s_upward) := ⟨rfl, rfl, rfl, by decide +kernel, rfl, by decide +kernel, by decide +kernel⟩
theorem ok_upward {f : Addr} {fd : FuncData} {k : Nat} (F : Fun K "upward" "upward" s_upward f fd) : FnOk P w K mg base CX0 (k + 1) f fd ["top", "bottom"] (spRnd fUp) := by
  refine F.ok sc_upward (fun vs H Q E h => ?_) (fun cdv A outer s H vs Q E hr h => ?_)
  · obtain ⟨t, b, rfl, _⟩ := h
    rfl
  · obtain ⟨t, b, rfl, hb, ht, hl, q⟩ := h
    refine ⟨_, (pss_one (ps_ret (pe_un un_neg (pe_op op_fdivW (pe_un un_neg (pv 0)) (pv 1))))), ?_⟩
    exact ⟨_, rfl, _, rfl, _, rfl, _, _, rfl, rfl, wide_div hb hl (by decide) (by decide), _, rfl, q⟩
theorem sc_inward : FnScope ["top", "bottom"] ["top", "bottom"] (defScope s_inward) := ⟨rfl, rfl, rfl, by decide +kernel, rfl, by decide +kernel, by decide +kernel⟩
theorem ok_inward {f : Addr} {fd : FuncData} (F : Fun K "inward" "inward" s_inward f fd) (c_downward : Cal P w K mg base 1 "downward" ["top", "bottom"] (spRnd fDown)) (c_upward : Cal P w K mg base 1 "upward" ["top", "bottom"] (spRnd fUp)) : FnOk P w K mg base CX0 2 f fd ["top", "bottom"] (spRnd fIn) := by
  refine F.ok sc_inward (fun vs H Q E h => ?_) (fun cdv A outer s H vs Q E hr h => ?_)
  · obtain ⟨t, b, rfl, _⟩ := h
    rfl
  · obtain ⟨t, b, rfl, hb, ht, hl, q⟩ := h
    refine ⟨_, (pss_one (ps_ret (pe_ifExp (pt_cmpR op_gt (pv 0) pe_int (nomark _)) (pe_cal c_downward hr (pa_cons (pv 0) (pa_cons (pv 1) pa_nil))) (pe_cal c_upward hr (pa_cons (pv 0) (pa_cons (pv 1) pa_nil)))))), ?_⟩
    refine ⟨_, rfl, _, _, rfl, rfl, _, rfl, ite2 (fun c => ?_) (fun c => ?_)⟩
    · refine ⟨_, rfl, _, rfl, t, b, rfl, hb, ht, hl, ?_⟩
      have hc : t > 0 := toB c
      unfold fIn at q
      rw [if_pos hc] at q
      exact q
    · refine ⟨_, rfl, _, rfl, t, b, rfl, hb, ht, hl, ?_⟩
      have hc : ¬ t > 0 := toNB c
      unfold fIn at q
      rw [if_neg hc] at q
      exact q
theorem sc_outward : FnScope ["top", "bottom"] ["top", "bottom"] (defScope s_outward) := ⟨rfl, rfl, rfl, by decide +kernel, rfl, by decide +kernel, by decide +kernel⟩
theorem ok_outward {f : Addr} {fd : FuncData} (F : Fun K "outward" "outward" s_outward f fd) (c_downward : Cal P w K mg base 1 "downward" ["top", "bottom"] (spRnd fDown)) (c_upward : Cal P w K mg base 1 "upward" ["top", "bottom"] (spRnd fUp)) : FnOk P w K mg base CX0 2 f fd ["top", "bottom"] (spRnd fOut) := by
  refine F.ok sc_outward (fun vs H Q E h => ?_) (fun cdv A outer s H vs Q E hr h => ?_)
  · obtain ⟨t, b, rfl, _⟩ := h
    rfl
  · obtain ⟨t, b, rfl, hb, ht, hl, q⟩ := h
    refine ⟨_, (pss_one (ps_ret (pe_ifExp (pt_cmpR op_gt (pv 0) pe_int (nomark _)) (pe_cal c_upward hr (pa_cons (pv 0) (pa_cons (pv 1) pa_nil))) (pe_cal c_downward hr (pa_cons (pv 0) (pa_cons (pv 1) pa_nil)))))), ?_⟩
    refine ⟨_, rfl, _, _, rfl, rfl, _, rfl, ite2 (fun c => ?_) (fun c => ?_)⟩
    · refine ⟨_, rfl, _, rfl, t, b, rfl, hb, ht, hl, ?_⟩
      have hc : t > 0 := toB c
      unfold fOut at q
      rw [if_pos hc] at q
      exact q
    · refine ⟨_, rfl, _, rfl, t, b, rfl, hb, ht, hl, ?_⟩
      have hc : ¬ t > 0 := toNB c
      unfold fOut at q
      rw [if_neg hc] at q
      exact q
theorem sc_nearest_greater : FnScope ["top", "bottom"] ["top", "bottom"] (defScope s_nearest_greater) := ⟨rfl, rfl, rfl, by decide +kernel, rfl, by decide +kernel, by decide +kernel⟩
theorem ok_nearest_greater {f : Addr} {fd : FuncData} {k : Nat} (F : Fun K "nearest_greater" "nearest_greater" s_nearest_greater f fd) : FnOk P w K mg base CX0 (k + 1) f fd ["top", "bottom"] (spRnd fHalf) := by
  refine F.ok sc_nearest_greater (fun vs H Q E h => ?_) (fun cdv A outer s H vs Q E hr h => ?_)
  · obtain ⟨t, b, rfl, _⟩ := h
    rfl
  · obtain ⟨t, b, rfl, hb, ht, hl, q⟩ := h
    refine ⟨_, (pss_one (ps_ret (pe_op op_fdivW (pe_op op_add (pe_op op_mul pe_int (pv 0)) (pv 1)) (pe_op op_mul pe_int (pv 1))))), ?_⟩
    exact ⟨_, rfl, _, _, rfl, rfl, .inl ⟨by decide, by decide⟩, _, rfl, _, _, rfl, rfl, _, rfl, _, _, rfl, rfl, .inl ⟨by decide, by decide⟩, _, _, rfl, rfl, wide_div (by omega) (two_b hl) (by decide) (by decide), q⟩
theorem sc_nearest_even : FnScope ["top", "bottom", "near", "halfway"] ["top", "bottom"] (defScope s_nearest_even) := ⟨rfl, rfl, rfl, by decide +kernel, rfl, by decide +kernel, by decide +kernel⟩
theorem ok_nearest_even {f : Addr} {fd : FuncData} (F : Fun K "nearest_even" "nearest_even" s_nearest_even f fd) (c_nearest_greater : Cal P w K mg base 1 "nearest_greater" ["top", "bottom"] (spRnd fHalf)) : FnOk P w K mg base CX0 2 f fd ["top", "bottom"] (spRnd fEven) := by
  refine F.ok sc_nearest_even (fun vs H Q E h => ?_) (fun cdv A outer s H vs Q E hr h => ?_)
  · obtain ⟨t, b, rfl, _⟩ := h
    rfl
  · obtain ⟨t, b, rfl, hb, ht, hl, q⟩ := h
    have hn := half_le ht hl
    refine ⟨_, (pss_cons (ps_set (i := 2) sc_nearest_even.nd rfl (.inl rfl) (pe_cal c_nearest_greater hr (pa_cons (pv 0) (pa_cons (pv 1) pa_nil))))
      (pss_cons (ps_set (i := 3) sc_nearest_even.nd rfl (.inl rfl) (pe_cmpR op_eq (pe_op op_mul pe_int (pe_op op_sub (pe_op op_mulW (pv 2) (pv 1)) (pv 0))) (pv 1) (nomark _)))
      (pss_one (ps_ret (pe_ifExp (PW.pt (pw_and (pt_val (pv 3)) (pw_and1 (pt_truth (pe_op op_and (pv 2) pe_int) (by intro _; rfl))))) (pe_op op_sub (pv 2) pe_int) (pv 2)))))), ?_⟩
    refine ⟨_, rfl, _, rfl, t, b, rfl, hb, ht, hl, ?_⟩
    unfold fEven at q
    generalize fHalf t b = n at *
    refine ⟨_, rfl, _, rfl, _, _, rfl, rfl, wide_mul hn hl (by decide) (by decide) (by decide), _, rfl, _, _, rfl, rfl, _, _, rfl, rfl, .inl ⟨by decide, by decide⟩, _, rfl, rfl, ?_⟩
    have eB : (decide (V.int (2 * (n * b - t)) = V.int b)) = decide (2 * (n * b - t) = b) := by
      by_cases h : 2 * (n * b - t) = b
      · rw [h, decide_eq_true rfl, decide_eq_true rfl]
      · rw [decide_eq_false h, decide_eq_false (fun z => h (V.int.inj z))]
    rw [eB]
    by_cases hc : 2 * (n * b - t) = b
    · rw [decide_eq_true hc]
      refine ⟨_, rfl, _, rfl, iteT ⟨_, rfl, _, _, rfl, rfl, _, rfl, ?_⟩⟩
      rw [PyProof.Rows.bitAnd_m1]
      by_cases h2 : n % 2 ≠ 0
      · have e : (n % 2 != 0) = true := by
          rw [bne_iff_ne]
          exact h2
        rw [e]
        rw [if_pos ⟨hc, h2⟩] at q
        exact iteT ⟨_, rfl, _, _, rfl, rfl, q⟩
      · have e : (n % 2 != 0) = false := by
          have : n % 2 = 0 := by omega
          rw [this]
          rfl
        rw [e]
        rw [if_neg (fun z => h2 z.2)] at q
        exact iteF ⟨_, rfl, q⟩
    · rw [decide_eq_false hc]
      rw [if_neg (fun z => hc z.1)] at q
      exact ⟨_, rfl, _, rfl, iteF (iteF ⟨_, rfl, q⟩)⟩
theorem sc_nearest_far : FnScope ["top", "bottom"] ["top", "bottom"] (defScope s_nearest_far) := ⟨rfl, rfl, rfl, by decide +kernel, rfl, by decide +kernel, by decide +kernel⟩
theorem ok_nearest_far {f : Addr} {fd : FuncData} (F : Fun K "nearest_far" "nearest_far" s_nearest_far f fd) (c_nearest_greater : Cal P w K mg base 1 "nearest_greater" ["top", "bottom"] (spRnd fHalf)) : FnOk P w K mg base CX0 2 f fd ["top", "bottom"] (spRnd fFar) := by
  refine F.ok sc_nearest_far (fun vs H Q E h => ?_) (fun cdv A outer s H vs Q E hr h => ?_)
  · obtain ⟨t, b, rfl, _⟩ := h
    rfl
  · obtain ⟨t, b, rfl, hb, ht, hl, q⟩ := h
    refine ⟨_, (pss_one (ps_ret (pe_ifExp (pt_cmpR op_gt (pv 0) pe_int (nomark _)) (pe_cal c_nearest_greater hr (pa_cons (pv 0) (pa_cons (pv 1) pa_nil))) (pe_un un_neg (pe_cal c_nearest_greater hr (pa_cons (pe_un un_neg (pv 0)) (pa_cons (pv 1) pa_nil))))))), ?_⟩
    refine ⟨_, rfl, _, _, rfl, rfl, _, rfl, ite2 (fun c => ?_) (fun c => ?_)⟩
    · refine ⟨_, rfl, _, rfl, t, b, rfl, hb, ht, hl, ?_⟩
      have hc : t > 0 := toB c
      unfold fFar at q
      rw [if_pos hc] at q
      exact q
    · refine ⟨_, rfl, _, rfl, _, rfl, -t, b, rfl, hb, by rw [Int.natAbs_neg]; exact ht, hl, _, rfl, ?_⟩
      have hc : ¬ t > 0 := toNB c
      unfold fFar at q
      rw [if_neg hc] at q
      exact q
theorem sc_is_manner : FnScope ["thing"] ["thing"] (defScope s_is_manner) := ⟨rfl, rfl, rfl, by decide +kernel, rfl, by decide +kernel, by decide +kernel⟩
theorem ok_is_manner {f : Addr} {fd : FuncData} {k : Nat} {dM : Addr} {es : Array DictEntry} {n : Nat} (M : Mans P w K mg base dM es n) (F : Fun K "is_manner" "is_manner" s_is_manner f fd) (z : Zs mg) : FnOk P w K mg base CX0 (k + 1) f fd ["thing"] (spManner K dM) := by
  refine F.ok sc_is_manner (fun vs H Q E h => ?_) (fun cdv A outer s H vs Q E hr h => ?_)
  · obtain ⟨x, b, rfl, _⟩ := h
    rfl
  · obtain ⟨x, b, rfl, hm, q⟩ := h
    refine ⟨_, (pss_one (ps_ret (pe_and (pe_callB call_isi (by rfl) z.isinstance (by decide +kernel) (pa_cons (pv 0) (pa_cons (pe_bltn (v := .ty "str") (by rfl) z.str (by decide +kernel) rfl) pa_nil))) (pe_one (pe_cmpR (op_in_kd M.D) (pv 0) (pe_glob (v := .ref dM) (by rfl) M.gm rfl) (by rfl)))))), ?_⟩
    rcases hm with ⟨m, rfl, rfl⟩ | ⟨y, rfl, ny, rfl⟩ | ⟨rfl, t, ty, kt⟩
    · obtain ⟨fm, fdm, h1, _⟩ := M.at_ m
      exact ⟨_, rfl, _, .ty "str", _, _, true, rfl, .ty _, .base (.str _), kit_ty (by decide +kernel), _, rfl, iteT ⟨_, rfl, _, _, rfl, rfl, h1, q⟩⟩
    · exact ⟨_, rfl, _, .ty "str", _, _, true, rfl, .ty _, .base (.str _), kit_ty (by decide +kernel), _, rfl, iteT ⟨_, rfl, _, _, rfl, rfl, ny, q⟩⟩
    · exact ⟨_, rfl, _, .ty "str", _, _, false, rfl, .ty _, ty, kit_ty kt, _, rfl, iteF q⟩
theorem sc_is_width : FnScope ["thing"] ["thing"] (defScope s_is_width) := ⟨rfl, rfl, rfl, by decide +kernel, rfl, by decide +kernel, by decide +kernel⟩
theorem ok_is_width {f : Addr} {fd : FuncData} {aE : Addr} (Z : FCst K mg aE) (F : Fun K "is_width" "is_width" s_is_width f fd) (c_is_whole : Cal P w K mg base 1 "is_whole" ["thing"] (spWhole K)) : FnOk P w K mg base CX0 2 f fd ["thing"] spWidth := by
  refine F.ok sc_is_width (fun vs H Q E h => ?_) (fun cdv A outer s H vs Q E hr h => ?_)
  · obtain ⟨w, rfl, _⟩ := h
    rfl
  · obtain ⟨w, rfl, hw, q⟩ := h
    obtain ⟨_, gLW⟩ := Z.lw
    obtain ⟨_, gGW⟩ := Z.gw
    refine ⟨_, (pss_one (ps_ret (pe_or (pe_cmpR op_isN (pv 0) pe_non (nomark _)) (pe_one (pe_and (pe_cal c_is_whole hr (pa_cons (pv 0) pa_nil)) (pe_one (pe_chain op_le op_le (pe_glob (v := .int 2) (by rfl) gLW ⟨_, rfl⟩) (pv 0) (pe_glob (v := .int 64) (by rfl) gGW ⟨_, rfl⟩)))))))), ?_⟩
    cases w with
    | none => exact ⟨_, rfl, rfl, _, rfl, iteT q⟩
    | some x =>
      obtain ⟨h1, h2⟩ := hw x rfl
      refine ⟨_, rfl, rfl, _, rfl, iteF ⟨_, rfl, _, _, rfl, .int x, _, rfl, iteT ⟨_, rfl, _, _, rfl, rfl, _, rfl, ?_⟩⟩⟩
      rw [decide_eq_true h1]
      refine iteT ⟨_, _, rfl, rfl, ?_⟩
      show Q (.bl (decide (x ≤ 64))) H
      rw [decide_eq_true h2]
      exact q
theorem sc_is_point : FnScope ["thing"] ["thing"] (defScope s_is_point) := ⟨rfl, rfl, rfl, by decide +kernel, rfl, by decide +kernel, by decide +kernel⟩
theorem ok_is_point {f : Addr} {fd : FuncData} {aE : Addr} (Z : FCst K mg aE) (F : Fun K "is_point" "is_point" s_is_point f fd) (z : Zs mg) (c_is_whole : Cal P w K mg base 1 "is_whole" ["thing"] (spWhole K)) : FnOk P w K mg base CX0 2 f fd ["thing"] spPoint := by
  refine F.ok sc_is_point (fun vs H Q E h => ?_) (fun cdv A outer s H vs Q E hr h => ?_)
  · obtain ⟨x, rfl, _⟩ := h
    rfl
  · obtain ⟨x, rfl, h1, h2, q⟩ := h
    obtain ⟨_, gGP⟩ := Z.gp
    refine ⟨_, (pss_one (ps_ret (pe_and (pe_cal c_is_whole hr (pa_cons (pv 0) pa_nil)) (pe_one (pe_cmpR op_le (pe_callB call_abs (by rfl) z.abs (by decide +kernel) (pa_cons (pv 0) pa_nil)) (pe_glob (v := .int 64) (by rfl) gGP ⟨_, rfl⟩) (nomark _)))))), ?_⟩
    refine ⟨_, rfl, _, _, rfl, .int x, _, rfl, iteT ⟨_, rfl, _, rfl, _, _, rfl, rfl, ?_⟩⟩
    show Q (.bl (decide ((if x < 0 then -x else x) ≤ 64))) H
    rw [decide_eq_true (show (if x < 0 then -x else x) ≤ 64 by split <;> omega)]
    exact q
theorem sc_is_ends : FnScope ["thing"] ["thing"] (defScope s_is_ends) := ⟨rfl, rfl, rfl, by decide +kernel, rfl, by decide +kernel, by decide +kernel⟩
theorem ok_is_ends {f : Addr} {fd : FuncData} {k : Nat} {aE : Addr} (Z : FCst K mg aE) (F : Fun K "is_ends" "is_ends" s_is_ends f fd) (z : Zs mg) : FnOk P w K mg base CX0 (k + 1) f fd ["thing"] spEnds := by
  refine F.ok sc_is_ends (fun vs H Q E h => ?_) (fun cdv A outer s H vs Q E hr h => ?_)
  · obtain ⟨st, rfl, _⟩ := h
    rfl
  · obtain ⟨st, rfl, q⟩ := h
    refine ⟨_, (pss_one (ps_ret (pe_and (pe_callB call_isi (by rfl) z.isinstance (by decide +kernel) (pa_cons (pv 0) (pa_cons (pe_bltn (v := .ty "str") (by rfl) z.str (by decide +kernel) rfl) pa_nil))) (pe_one (pe_cmpR op_in_seq (pv 0) (pe_glob (v := .ref aE) (by rfl) Z.e rfl) (by rfl)))))), ?_⟩
    refine ⟨_, rfl, _, .ty "str", _, _, true, rfl, .ty _, .base (.str _), kit_ty (by decide +kernel), _, rfl, iteT ⟨_, rfl, aE, _, rfl, .inr (Z.eT _), rfl, rfl, ?_⟩⟩
    cases st with
    | true =>
      rw [show inV (V.str (endS true)) [V.str "wrap", V.str "stop"] = true by decide +kernel]
      exact q
    | false =>
      rw [show inV (V.str (endS false)) [V.str "wrap", V.str "stop"] = true by decide +kernel]
      exact q
theorem sc_Form___init__ : FnScope ["self", "width", "point", "manner", "ends"] ["self", "width", "point", "manner", "ends"] (defScope s_Form___init__) := ⟨rfl, rfl, rfl, by decide +kernel, rfl, by decide +kernel, by decide +kernel⟩
theorem ok_Form___init__ {f : Addr} {fd : FuncData} {dM : Addr} {dvs : List V} {C : Addr} (T : FTxt K mg C) (F : FunD K "__init__" "Form.__init__" (defArgs s_Form___init__) (defBody s_Form___init__) (defScope s_Form___init__) dvs [] f fd) (c_is_width : Cal P w K mg base 2 "is_width" ["thing"] spWidth) (c_is_point : Cal P w K mg base 2 "is_point" ["thing"] spPoint) (c_is_manner : Cal P w K mg base 1 "is_manner" ["thing"] (spManner K dM)) (c_is_ends : Cal P w K mg base 1 "is_ends" ["thing"] spEnds) : FnOk P w K mg base CX0 3 f fd ["self", "width", "point", "manner", "ends"] (spInit C) := by
  refine F.ok sc_Form___init__ (fun vs H Q E h => ?_) (fun cdv A outer s H vs Q E hr h => ?_)
  · obtain ⟨p, dx, w, pt, m, st, rfl, _⟩ := h
    rfl
  · obtain ⟨p, dx, w, pt, m, st, rfl, hw, h0, h1, hp, q⟩ := h
    refine ⟨_, PSs.nox (pss_cons (ps_if (pt_not (pt_val (pe_cal c_is_width hr (pa_cons (pv 1) pa_nil)))) (pss_one ps_never) pss_nil)
      (pss_cons (ps_if (pt_not (pt_val (pe_cal c_is_point hr (pa_cons (pv 2) pa_nil)))) (pss_one ps_never) pss_nil)
      (pss_cons (ps_if (pt_not (pt_val (pe_cal c_is_manner hr (pa_cons (pv 3) pa_nil)))) (pss_one ps_never) pss_nil)
      (pss_cons (ps_if (pt_not (pt_val (pe_cal c_is_ends hr (pa_cons (pv 4) pa_nil)))) (pss_one ps_never) pss_nil)
      (pss_cons (ps_fld (pv 0) (pv 1) rfl)
      (pss_cons (ps_fld (pv 0) (pv 2) rfl)
      (pss_cons (ps_fld (pv 0) (pv 3) rfl)
      (pss_one (ps_fld (pv 0) (pv 4) rfl))))))))), ?_⟩
    refine ⟨_, rfl, w, rfl, hw, _, rfl, iteF ?_⟩
    refine ⟨_, rfl, pt, rfl, h0, h1, _, rfl, iteF ?_⟩
    refine ⟨_, rfl, _, true, rfl, .inl ⟨m, rfl, rfl⟩, _, rfl, iteF ?_⟩
    refine ⟨_, rfl, st, rfl, _, rfl, iteF ?_⟩
    refine ⟨_, rfl, _, rfl, p, C, dx, [], rfl, hp, T.cl, T.nW, (by show 0 < 1000; decide), ?_⟩
    refine ⟨_, rfl, _, rfl, p, C, dx, _, rfl, upd_same, T.cl, T.nP, (by show 1 < 1000; decide), ?_⟩
    refine ⟨_, rfl, _, rfl, p, C, dx, _, rfl, upd_same, T.cl, T.nM, ?_, ?_⟩
    · simp only [putF, if_neg (ne_of_beq nPW)]
      show 2 < 1000
      decide
    refine ⟨_, rfl, _, rfl, p, C, dx, _, rfl, upd_same, T.cl, T.nE, ?_, ?_⟩
    · simp only [putF, if_neg (ne_of_beq nPW), if_neg (ne_of_beq nMW), if_neg (ne_of_beq nMP)]
      show 3 < 1000
      decide
    refine q _ ⟨⟨dx, ?_⟩, hw, h0, h1⟩ (fun b o hb e => ?_) (fun b hb e => ?_)
    · rw [upd_same]
      exact congrArg (fun l => some (HO.ins C dx l)) fl_put
    · rw [upd_ne hb, upd_ne hb, upd_ne hb, upd_ne hb]
      exact e
    · rw [upd_ne hb, upd_ne hb, upd_ne hb, upd_ne hb]
      exact e
theorem sc_Form_least : FnScope ["self"] ["self"] (defScope s_Form_least) := ⟨rfl, rfl, rfl, by decide +kernel, rfl, by decide +kernel, by decide +kernel⟩
theorem ok_Form_least {f : Addr} {fd : FuncData} {k : Nat} {C : Addr} (T : FTxt K mg C) (F : Fun K "least" "Form.least" s_Form_least f fd) : FnOk P w K mg base CX0 (k + 1) f fd ["self"] (spLeast C) := by
  refine F.ok sc_Form_least (fun vs H Q E h => ?_) (fun cdv A outer s H vs Q E hr h => ?_)
  · obtain ⟨p, w, pt, m, st, rfl, _⟩ := h
    rfl
  · obtain ⟨p, w, pt, m, st, rfl, ⟨⟨dx, ho⟩, hw, _, _⟩, q⟩ := h
    refine ⟨_, (pss_one (ps_ret (pe_ifExp (pt_cmpR op_isN (pe_fld (pv 0) rfl) pe_non (nomark _)) pe_non (pe_un un_neg (pe_op op_shl pe_int (pe_op op_sub (pe_fld (pv 0) rfl) pe_int)))))), ?_⟩
    refine ⟨_, rfl, p, C, dx, _, _, rfl, ho, T.cl, T.nW, fl_w, rfl, _, rfl, ?_⟩
    cases w with
    | none => exact iteT q
    | some x =>
      obtain ⟨h1, h2⟩ := hw x rfl
      refine iteF ⟨_, rfl, p, C, dx, _, _, rfl, ho, T.cl, T.nW, fl_w, _, _, rfl, rfl, _, _, rfl, rfl, ⟨by omega, by omega, by decide⟩, _, rfl, ?_⟩
      have e : (1 : Int) * 2 ^ (x - 1).toNat = two (x - 1) := Int.one_mul _
      rw [e]
      exact q
theorem sc_Form_greatest : FnScope ["self"] ["self"] (defScope s_Form_greatest) := ⟨rfl, rfl, rfl, by decide +kernel, rfl, by decide +kernel, by decide +kernel⟩
theorem ok_Form_greatest {f : Addr} {fd : FuncData} {k : Nat} {C : Addr} (T : FTxt K mg C) (F : Fun K "greatest" "Form.greatest" s_Form_greatest f fd) : FnOk P w K mg base CX0 (k + 1) f fd ["self"] (spGreatest C) := by
  refine F.ok sc_Form_greatest (fun vs H Q E h => ?_) (fun cdv A outer s H vs Q E hr h => ?_)
  · obtain ⟨p, w, pt, m, st, rfl, _⟩ := h
    rfl
  · obtain ⟨p, w, pt, m, st, rfl, ⟨⟨dx, ho⟩, hw, _, _⟩, q⟩ := h
    refine ⟨_, (pss_one (ps_ret (pe_ifExp (pt_cmpR op_isN (pe_fld (pv 0) rfl) pe_non (nomark _)) pe_non (pe_op op_sub (pe_op op_shl pe_int (pe_op op_sub (pe_fld (pv 0) rfl) pe_int)) pe_int)))), ?_⟩
    refine ⟨_, rfl, p, C, dx, _, _, rfl, ho, T.cl, T.nW, fl_w, rfl, _, rfl, ?_⟩
    cases w with
    | none => exact iteT q
    | some x =>
      obtain ⟨h1, h2⟩ := hw x rfl
      refine iteF ⟨_, rfl, p, C, dx, _, _, rfl, ho, T.cl, T.nW, fl_w, _, _, rfl, rfl, _, _, rfl, rfl, ⟨by omega, by omega, by decide⟩, _, _, rfl, rfl, ?_⟩
      have e : (1 : Int) * 2 ^ (x - 1).toNat = two (x - 1) := Int.one_mul _
      rw [e]
      exact q
end
end E1

namespace E1
open PySem PySem.Spec PyProof.Rows L2
section
variable {P : Program} {w : World} {K : PySem.W.Frag} {mg : Str → Option Value} {base : Heap}
theorem sc__law_same : FnScope ["_law_found", "_law_due", "_law_one", "_law_other"] ["_law_found", "_law_due"] (defScope s__law_same) := ⟨rfl, rfl, rfl, by decide +kernel, rfl, by decide +kernel, by decide +kernel⟩
theorem ok_same {f : Addr} {fd : FuncData} {k n : Nat} (F : Fun K "_law_same" "_law_same" s__law_same f fd) (z : Zs mg) (c__law_same : Cal P w K mg base k "_law_same" ["_law_found", "_law_due"] (spSameN n)) : FnOk P w K mg base CX0 (k + 1) f fd ["_law_found", "_law_due"] (spSameN (n + 1)) := by
  refine F.ok sc__law_same (fun vs H Q E h => ?_) (fun cdv A outer s H vs Q E hr h => ?_)
  · obtain ⟨x, y, rfl, _⟩ := h
    rfl
  · obtain ⟨x, y, rfl, hh, q⟩ := h
    refine ⟨_, (pss_cons (ps_if (pt_val (pe_callB call_isiT (by rfl) z.isinstance (by decide +kernel) (pa_cons (pv 1) (pa_cons (pe_tup (pa_cons (pe_bltn (v := .ty "list") (by rfl) z.list (by decide +kernel) rfl) (pa_cons (pe_bltn (v := .ty "tuple") (by rfl) z.tuple (by decide +kernel) rfl) pa_nil))) pa_nil)))) (pss_cons (ps_if (PW.pt (pw_or (pt_cmpR op_ne (pe_callB call_isi (by rfl) z.isinstance (by decide +kernel) (pa_cons (pv 1) (pa_cons (pe_bltn (v := .ty "list") (by rfl) z.list (by decide +kernel) rfl) pa_nil))) (pe_callB call_isi (by rfl) z.isinstance (by decide +kernel) (pa_cons (pv 0) (pa_cons (pe_bltn (v := .ty "list") (by rfl) z.list (by decide +kernel) rfl) pa_nil))) (nomark _)) (pw_or1 (pt_cmpR op_ne (pe_callB call_isi (by rfl) z.isinstance (by decide +kernel) (pa_cons (pv 1) (pa_cons (pe_bltn (v := .ty "tuple") (by rfl) z.tuple (by decide +kernel) rfl) pa_nil))) (pe_callB call_isi (by rfl) z.isinstance (by decide +kernel) (pa_cons (pv 0) (pa_cons (pe_bltn (v := .ty "tuple") (by rfl) z.tuple (by decide +kernel) rfl) pa_nil))) (nomark _))))) (pss_one (ps_ret pe_bl)) pss_nil)
      (pss_one (ps_ret (pe_and (pe_cmpR op_eq (pe_callB call_len_seq (by rfl) z.len PySem.boot_len (pa_cons (pv 0) pa_nil)) (pe_callB call_len_seq (by rfl) z.len PySem.boot_len (pa_cons (pv 1) pa_nil)) (nomark _)) (pe_one (pe_callB (cr_all rfl) (by rfl) z.all (by decide +kernel) (pa_cons (pe_lc (own := [("_law_one", 2), ("_law_other", 3)]) (g := gTup K 2 (gCons (gName 2) (gCons (gName 3) gNil))) (tt := tYes) (te := (tCall (spSameN n) [] E0 (tCons (tVar 2) (tCons (tVar 3) tNil)))) (by rfl) sc__law_same.nd (RZ.pi_zipA (by rfl) z.zip (pa_cons (pv 0) (pa_cons (pv 1) pa_nil))) (blkOk_by (own := [("_law_one", 2), ("_law_other", 3)]) (N := ["_law_found", "_law_due", "_law_one", "_law_other"]) (sc := defScope s__law_same) (by decide +kernel)) (fun _ _ _ _ _ => by exact (pg_tup (by rfl) (pgs_cons (pg_name (i := 2) sc__law_same.nd rfl (.inl rfl)) (pgs_cons (pg_name (i := 3) sc__law_same.nd rfl (.inl rfl)) pgs_nil)))) (fun _ _ _ _ _ => by exact pts_nil) (fun _ _ _ _ _ => by exact (pe_cal (hle := Nat.le_refl _) c__law_same hr (pa_cons (pv 2) (pa_cons (pv 3) pa_nil))))) pa_nil))))))) pss_nil)
      (pss_cons (ps_if (pt_cmpR op_isN (pv 1) pe_non (nomark _)) (pss_one (ps_ret (pe_cmpR op_isN (pv 0) pe_non (nomark _)))) pss_nil)
      (pss_cons (ps_if (pt_val (pe_callB call_isiT (by rfl) z.isinstance (by decide +kernel) (pa_cons (pv 1) (pa_cons (pe_tup (pa_cons (pe_bltn (v := .ty "bool") (by rfl) z.bool (by decide +kernel) rfl) (pa_cons (pe_bltn (v := .ty "str") (by rfl) z.str (by decide +kernel) rfl) pa_nil))) pa_nil)))) (pss_one (ps_ret (pe_and (pe_cmpR op_eq (pe_callB call_isi (by rfl) z.isinstance (by decide +kernel) (pa_cons (pv 0) (pa_cons (pe_bltn (v := .ty "bool") (by rfl) z.bool (by decide +kernel) rfl) pa_nil))) (pe_callB call_isi (by rfl) z.isinstance (by decide +kernel) (pa_cons (pv 1) (pa_cons (pe_bltn (v := .ty "bool") (by rfl) z.bool (by decide +kernel) rfl) pa_nil))) (nomark _)) (pe_one (pe_cmpR op_eq (pv 0) (pv 1) (nomark _)))))) pss_nil)
      (pss_one (ps_ret (pe_and (pe_callB call_isi (by rfl) z.isinstance (by decide +kernel) (pa_cons (pv 0) (pa_cons (pe_bltn (v := .ty "int") (by rfl) z.int (by decide +kernel) rfl) pa_nil))) (pe_and (pe_not (pe_callB call_isi (by rfl) z.isinstance (by decide +kernel) (pa_cons (pv 0) (pa_cons (pe_bltn (v := .ty "bool") (by rfl) z.bool (by decide +kernel) rfl) pa_nil)))) (pe_one (pe_cmpR op_eq (pv 0) (pv 1) (nomark _)))))))))), ?_⟩
    rcases hh with ⟨rfl, hf⟩ | ⟨a, c, xs, ys, rfl, rfl, hlen, hmax, hal, hk⟩
    · cases hf with
      | int i =>
        refine ⟨_, rfl, (by show 2 ≤ sizeLine; decide), fun p hp => ⟨_, p, _, _, _, false, rfl, upd_same, .cons (.ty _) (.cons (.ty _) .nil), .base (.int i), kit2 (t := "int") (a := "list") (b := "tuple") (r1 := false) (r2 := false) (by decide +kernel) (by decide +kernel), _, rfl, iteF ?_⟩⟩
        refine ⟨_, rfl, rfl, _, rfl, ite2 (fun c => absurd (toB c) (fun e => nomatch e)) (fun _ => ?_)⟩
        refine ⟨_, rfl, (by show 2 ≤ sizeLine; decide), fun p2 hp2 => ⟨_, p2, _, _, _, false, rfl, upd_same, .cons (.ty _) (.cons (.ty _) .nil), .base (.int i), kit2 (t := "int") (a := "bool") (b := "str") (r1 := false) (r2 := false) (by decide +kernel) (by decide +kernel), _, rfl, iteF ?_⟩⟩
        refine ⟨_, rfl, _, .ty "int", _, _, true, rfl, .ty _, .base (.int i), kit_ty (by decide +kernel), _, rfl, iteT ⟨_, rfl, _, .ty "bool", _, _, false, rfl, .ty _, .base (.int i), kit_ty (by decide +kernel), _, rfl, _, rfl, iteT ⟨_, rfl, _, rfl, rfl, ?_⟩⟩⟩
        rw [decide_eq_true rfl]
        exact q _ ((same_new hp).trans (same_new hp2))
      | bl b =>
        refine ⟨_, rfl, (by show 2 ≤ sizeLine; decide), fun p hp => ⟨_, p, _, _, _, false, rfl, upd_same, .cons (.ty _) (.cons (.ty _) .nil), .base (.bl b), kit2 (t := "bool") (a := "list") (b := "tuple") (r1 := false) (r2 := false) (by decide +kernel) (by decide +kernel), _, rfl, iteF ?_⟩⟩
        refine ⟨_, rfl, rfl, _, rfl, ite2 (fun c => absurd (toB c) (fun e => nomatch e)) (fun _ => ?_)⟩
        refine ⟨_, rfl, (by show 2 ≤ sizeLine; decide), fun p2 hp2 => ⟨_, p2, _, _, _, true, rfl, upd_same, .cons (.ty _) (.cons (.ty _) .nil), .base (.bl b), kit2 (t := "bool") (a := "bool") (b := "str") (r1 := true) (r2 := false) (by decide +kernel) (by decide +kernel), _, rfl, iteT ?_⟩⟩
        refine ⟨_, rfl, _, .ty "bool", _, _, true, rfl, .ty _, .base (.bl b), kit_ty (by decide +kernel), _, rfl, _, .ty "bool", _, _, true, rfl, .ty _, .base (.bl b), kit_ty (by decide +kernel), rfl, _, rfl, ?_⟩
        rw [decide_eq_true rfl]
        refine iteT ⟨_, rfl, _, rfl, rfl, ?_⟩
        rw [decide_eq_true rfl]
        exact q _ ((same_new hp).trans (same_new hp2))
      | str t =>
        refine ⟨_, rfl, (by show 2 ≤ sizeLine; decide), fun p hp => ⟨_, p, _, _, _, false, rfl, upd_same, .cons (.ty _) (.cons (.ty _) .nil), .base (.str t), kit2 (t := "str") (a := "list") (b := "tuple") (r1 := false) (r2 := false) (by decide +kernel) (by decide +kernel), _, rfl, iteF ?_⟩⟩
        refine ⟨_, rfl, rfl, _, rfl, ite2 (fun c => absurd (toB c) (fun e => nomatch e)) (fun _ => ?_)⟩
        refine ⟨_, rfl, (by show 2 ≤ sizeLine; decide), fun p2 hp2 => ⟨_, p2, _, _, _, true, rfl, upd_same, .cons (.ty _) (.cons (.ty _) .nil), .base (.str t), kit2 (t := "str") (a := "bool") (b := "str") (r1 := false) (r2 := true) (by decide +kernel) (by decide +kernel), _, rfl, iteT ?_⟩⟩
        refine ⟨_, rfl, _, .ty "bool", _, _, false, rfl, .ty _, .base (.str t), kit_ty (by decide +kernel), _, rfl, _, .ty "bool", _, _, false, rfl, .ty _, .base (.str t), kit_ty (by decide +kernel), rfl, _, rfl, ?_⟩
        rw [decide_eq_true rfl]
        refine iteT ⟨_, rfl, _, rfl, rfl, ?_⟩
        rw [decide_eq_true rfl]
        exact q _ ((same_new hp).trans (same_new hp2))
      | non =>
        refine ⟨_, rfl, (by show 2 ≤ sizeLine; decide), fun p hp => ⟨_, p, _, _, _, false, rfl, upd_same, .cons (.ty _) (.cons (.ty _) .nil), .base .non, kit2 (t := "NoneType") (a := "list") (b := "tuple") (r1 := false) (r2 := false) (by decide +kernel) (by decide +kernel), _, rfl, iteF ?_⟩⟩
        refine ⟨_, rfl, rfl, _, rfl, ?_⟩
        rw [decide_eq_true rfl]
        refine iteT ⟨_, rfl, rfl, ?_⟩
        rw [decide_eq_true rfl]
        exact q _ (same_new hp)
    · rcases hk with ⟨h1, h2⟩ | ⟨h1, h2⟩
      · refine ⟨_, rfl, (by show 2 ≤ sizeLine; decide), fun p hp => ⟨_, p, _, _, _, true, rfl, upd_same, .cons (.ty _) (.cons (.ty _) .nil), .base (.tup (same_new hp _ _ h2)), kit2 (t := "tuple") (a := "list") (b := "tuple") (r1 := false) (r2 := true) (by decide +kernel) (by decide +kernel), _, rfl, iteT ?_⟩⟩
        have s1 : Same H (upd H p (.tup [V.ty "list", V.ty "tuple"])) := same_new hp
        have k1 := s1 _ _ h1
        have k2 := s1 _ _ h2
        refine ⟨_, rfl, _, .ty "list", _, _, false, rfl, .ty _, .base (.tup k2), kit_ty (by decide +kernel), _, rfl, _, .ty "list", _, _, false, rfl, .ty _, .base (.tup k1), kit_ty (by decide +kernel), rfl, _, rfl, iteNS rfl ?_⟩
        refine ⟨_, rfl, _, .ty "tuple", _, _, true, rfl, .ty _, .base (.tup k2), kit_ty (by decide +kernel), _, rfl, _, .ty "tuple", _, _, true, rfl, .ty _, .base (.tup k1), kit_ty (by decide +kernel), rfl, _, rfl, iteNS rfl ?_⟩
        refine ⟨_, rfl, a, xs, rfl, .inr (SqT.of k1), _, rfl, c, ys, rfl, .inr (SqT.of k2), rfl, _, rfl, ?_⟩
        rw [decide_eq_true (by rw [hlen])]
        refine iteT ⟨_, rfl, _, rfl, a, c, xs, ys, rfl, .inr ⟨SqT.of k1, SqT.of k2, fun D hD => ?_⟩⟩
        refine lc_it (walk_zipT (K := K) (a := a) (b := c) (xs := xs) (ys := ys) rfl) (fun i H2 => Same (upd H p (.tup [V.ty "list", V.ty "tuple"])) H2 ∧ H2 D = some (.lst (List.replicate i (V.bl true))))
          ⟨same_new hD, upd_same⟩ (fun i H2 _ hP => ⟨SqT.of (hP.1 _ _ k1), SqT.of (hP.1 _ _ k2)⟩) (fun i x H2 H3 hi hP hY => ?_) (fun H2 hP => ?_)
        · obtain ⟨s2, hD2⟩ := hP
          obtain ⟨Tp, u, v, rfl, nT, rfl, e1, e2⟩ := hY
          have fu := hal i u v e1 e2
          refine ⟨Tp, [u, v], rfl, SqT.of upd_same, rfl, _, _, rfl, _, _, rfl, rfl, rfl, ?_⟩
          refine ⟨_, rfl, _, rfl, u, v, rfl, Al.same ((s1.trans s2).trans (same_new nT)) n u v fu, fun H4 s4 => ?_⟩
          have s5 : Same H2 H4 := (same_new nT).trans s4
          have hil : i < 1001 := by
            rw [hlen, Nat.min_self] at hi
            omega
          refine ⟨_, s5 _ _ hD2, ?_, fun b o e => ?_, ?_⟩
          · rw [List.length_replicate]
            exact small1000 (by omega)
          · rw [upd_ne (ne_of_none e hD)]
            exact s5 _ _ (s2 _ _ e)
          · rw [upd_same, rep_more]
        · obtain ⟨s2, hD2⟩ := hP
          refine ⟨D, List.replicate _ true, rfl, SqL.of (by rw [rep_map]; exact hD2), ?_⟩
          rw [rep_all]
          exact q _ (s1.trans s2)
      · refine ⟨_, rfl, (by show 2 ≤ sizeLine; decide), fun p hp => ⟨_, p, _, _, _, true, rfl, upd_same, .cons (.ty _) (.cons (.ty _) .nil), .base (.lst (same_new hp _ _ h2)), kit2 (t := "list") (a := "list") (b := "tuple") (r1 := true) (r2 := false) (by decide +kernel) (by decide +kernel), _, rfl, iteT ?_⟩⟩
        have s1 : Same H (upd H p (.tup [V.ty "list", V.ty "tuple"])) := same_new hp
        have k1 := s1 _ _ h1
        have k2 := s1 _ _ h2
        refine ⟨_, rfl, _, .ty "list", _, _, true, rfl, .ty _, .base (.lst k2), kit_ty (by decide +kernel), _, rfl, _, .ty "list", _, _, true, rfl, .ty _, .base (.lst k1), kit_ty (by decide +kernel), rfl, _, rfl, iteNS rfl ?_⟩
        refine ⟨_, rfl, _, .ty "tuple", _, _, false, rfl, .ty _, .base (.lst k2), kit_ty (by decide +kernel), _, rfl, _, .ty "tuple", _, _, false, rfl, .ty _, .base (.lst k1), kit_ty (by decide +kernel), rfl, _, rfl, iteNS rfl ?_⟩
        refine ⟨_, rfl, a, xs, rfl, .inl (SqL.of k1), _, rfl, c, ys, rfl, .inl (SqL.of k2), rfl, _, rfl, ?_⟩
        rw [decide_eq_true (by rw [hlen])]
        refine iteT ⟨_, rfl, _, rfl, a, c, xs, ys, rfl, .inl ⟨SqL.of k1, SqL.of k2, fun D hD => ?_⟩⟩
        refine lc_it (walk_zip (K := K) (a := a) (b := c) (xs := xs) (ys := ys) rfl) (fun i H2 => Same (upd H p (.tup [V.ty "list", V.ty "tuple"])) H2 ∧ H2 D = some (.lst (List.replicate i (V.bl true))))
          ⟨same_new hD, upd_same⟩ (fun i H2 _ hP => ⟨SqL.of (hP.1 _ _ k1), SqL.of (hP.1 _ _ k2)⟩) (fun i x H2 H3 hi hP hY => ?_) (fun H2 hP => ?_)
        · obtain ⟨s2, hD2⟩ := hP
          obtain ⟨Tp, u, v, rfl, nT, rfl, e1, e2⟩ := hY
          have fu := hal i u v e1 e2
          refine ⟨Tp, [u, v], rfl, SqT.of upd_same, rfl, _, _, rfl, _, _, rfl, rfl, rfl, ?_⟩
          refine ⟨_, rfl, _, rfl, u, v, rfl, Al.same ((s1.trans s2).trans (same_new nT)) n u v fu, fun H4 s4 => ?_⟩
          have s5 : Same H2 H4 := (same_new nT).trans s4
          have hil : i < 1001 := by
            rw [hlen, Nat.min_self] at hi
            omega
          refine ⟨_, s5 _ _ hD2, ?_, fun b o e => ?_, ?_⟩
          · rw [List.length_replicate]
            exact small1000 (by omega)
          · rw [upd_ne (ne_of_none e hD)]
            exact s5 _ _ (s2 _ _ e)
          · rw [upd_same, rep_more]
        · obtain ⟨s2, hD2⟩ := hP
          refine ⟨D, List.replicate _ true, rfl, SqL.of (by rw [rep_map]; exact hD2), ?_⟩
          rw [rep_all]
          exact q _ (s1.trans s2)

theorem ok_sameN {f : Addr} {fd : FuncData} {k : Nat} (F : Fun K "_law_same" "_law_same" s__law_same f fd) : FnOk P w K mg base CX0 (k + 1) f fd ["_law_found", "_law_due"] (spSameN 0) := by
  refine F.ok sc__law_same (fun vs H Q E h => ?_) (fun cdv A outer s H vs Q E hr h => ?_)
  · obtain ⟨_, _, _, h, _⟩ := h
    exact False.elim h
  · obtain ⟨_, _, _, h, _⟩ := h
    exact False.elim h
theorem sc_width_for : FnScope ["number", "size"] ["number"] (defScope s_width_for) := ⟨rfl, rfl, rfl, by decide +kernel, rfl, by decide +kernel, by decide +kernel⟩
theorem ok_width_for {f : Addr} {fd : FuncData} {k : Nat} (F : Fun K "width_for" "width_for" s_width_for f fd) (z : Zs mg) (tk : Tok) (g_LEAST_WIDTH_taps : mg "LEAST_WIDTH_taps" = some (.int 2 tk)) : FnOk P w K mg base CX0 (k + 1) f fd ["number"] spWid := by
  refine F.ok sc_width_for (fun vs H Q E h => ?_) (fun cdv A outer s H vs Q E hr h => ?_)
  · obtain ⟨n, rfl, _⟩ := h
    rfl
  · obtain ⟨n, rfl, q⟩ := h
    refine ⟨_, (pss_cons (ps_set (i := 1) sc_width_for.nd rfl (.inl rfl) (pe_ifExp (pt_cmpR op_ge (pv 0) pe_int (nomark _)) (pv 0) (pe_op op_sub (pe_un un_neg (pv 0)) pe_int)))
      (pss_one (ps_ret (pe_callB (call_max2 rfl) (by rfl) z.max (by decide +kernel) (pa_cons (pe_glob (v := .int 2) (by rfl) g_LEAST_WIDTH_taps ⟨_, rfl⟩) (pa_cons (pe_op op_add (pe_bits (pv 1)) pe_int) pa_nil)))))), ?_⟩
    have fin : ∀ s : Int, s = szI n → Q (.int (if (((Builtin.Int.intBits s : Nat) : Int) + 1) > 2 then (((Builtin.Int.intBits s : Nat) : Int) + 1) else 2)) H := fun s hs => by
      rw [hs]
      exact q
    refine ⟨_, rfl, _, _, rfl, rfl, _, rfl, ite2 (fun c => ?_) (fun c => ?_)⟩
    · have hc : n ≥ 0 := toB c
      refine ⟨_, rfl, ?_⟩
      refine ⟨_, rfl, _, rfl, _, _, rfl, rfl, _, _, rfl, fin _ ?_⟩
      unfold szI
      rw [if_pos hc]
    · have hc : ¬ n ≥ 0 := toNB c
      refine ⟨_, rfl, _, rfl, _, _, rfl, rfl, ?_⟩
      refine ⟨_, rfl, _, rfl, _, _, rfl, rfl, _, _, rfl, fin _ ?_⟩
      unfold szI
      rw [if_neg hc]
theorem sc_guard : FnScope ["taps", "form", "least", "least_row", "greatest", "greatest_row", "width"] ["taps", "form"] (defScope s_guard) := ⟨rfl, rfl, rfl, by decide +kernel, rfl, by decide +kernel, by decide +kernel⟩
theorem ok_guard {f : Addr} {fd : FuncData} {C : Addr} (T : FTxt K mg C) (FC : FX K mg C) (F : Fun K "guard" "guard" s_guard f fd) (z : Zs mg) (tk : Tok) (g_LEAST_WIDTH_taps : mg "LEAST_WIDTH_taps" = some (.int 2 tk)) (c_check_taps : Cal P w K mg base 3 "check_taps" ["taps"] spTaps) (c_extremes : Cal P w K mg base 4 "extremes" ["taps", "low", "high"] spExt) (c_width_for : Cal P w K mg base 1 "width_for" ["number"] spWid) (m_least : CalM P w K mg base 1 C "least" ["self"] (spLeast C)) (m_greatest : CalM P w K mg base 1 C "greatest" ["self"] (spGreatest C)) : FnOk P w K mg base CX0 5 f fd ["taps", "form"] (spGuard C) := by
  refine F.ok sc_guard (fun vs H Q E h => ?_) (fun cdv A outer s H vs Q E hr h => ?_)
  · obtain ⟨a, p, ns, x, pt, m, st, rfl, _⟩ := h
    rfl
  · obtain ⟨a, p, ns, x, pt, m, st, rfl, ha, hs, h1, hf, q2, qn⟩ := h
    refine ⟨_, (pss_cons (ps_expr (pe_cal c_check_taps hr (pa_cons (pv 0) pa_nil)))
      (pss_cons (ps_if (PW.pt (pw_or (pt_not (pt_val (pe_callB call_isi (by rfl) z.isinstance (by decide +kernel) (pa_cons (pv 1) (pa_cons (pe_glob (v := .ref C) (by rfl) FC.gC rfl) pa_nil))))) (pw_or1 (pt_cmpR op_isN (pe_fld (pv 1) rfl) pe_non (nomark _))))) (pss_one ps_never) pss_nil)
      (pss_cons (ps_asg (pe_cal c_extremes hr (pa_cons (pv 0) (pa_cons (pe_calm0 (pv 1) T.cl m_least hr) (pa_cons (pe_calm0 (pv 1) T.cl m_greatest hr) pa_nil)))) (pg_tup (by rfl) (pgs_cons (pg_name (i := 2) sc_guard.nd rfl (.inl rfl)) (pgs_cons (pg_name (i := 3) sc_guard.nd rfl (.inl rfl)) (pgs_cons (pg_name (i := 4) sc_guard.nd rfl (.inl rfl)) (pgs_cons (pg_name (i := 5) sc_guard.nd rfl (.inl rfl)) pgs_nil))))))
      (pss_cons (ps_set (i := 6) sc_guard.nd rfl (.inl rfl) (pe_callB (call_max2 rfl) (by rfl) z.max (by decide +kernel) (pa_cons (pe_cal c_width_for hr (pa_cons (pv 2) pa_nil)) (pa_cons (pe_cal c_width_for hr (pa_cons (pv 4) pa_nil)) pa_nil))))
      (pss_cons (ps_if (pt_cmpR op_eq (pv 6) (pe_glob (v := .int 2) (by rfl) g_LEAST_WIDTH_taps ⟨_, rfl⟩) (nomark _)) (pss_one (ps_ret (pe_tup (pa_cons (pv 6) (pa_cons pe_non pa_nil))))) pss_nil)
      (pss_one (ps_ret (pe_tup (pa_cons (pv 6) (pa_cons (pe_ifExp (pt_cmpR op_eq (pe_cal c_width_for hr (pa_cons (pv 4) pa_nil)) (pv 6) (nomark _)) (pv 5) (pv 3)) pa_nil)))))))))), ?_⟩
    refine ⟨_, rfl, a, ns, rfl, ha, hs, h1, fun H1 s1 => ?_⟩
    have hf1 := hf.same s1
    obtain ⟨⟨dx, ho⟩, hw, _, _⟩ := id hf1
    obtain ⟨x0, x1⟩ := hw x rfl
    refine ⟨_, rfl, _, .ref C, _, _, true, rfl, .own C, .base (.ins ho T.cl FC.ha FC.hn FC.ht FC.hm), FC.kC, _, rfl, iteF ?_⟩
    refine ⟨_, rfl, p, C, dx, _, _, rfl, ho, T.cl, T.nW, fl_w, rfl, _, rfl, ite2 (fun c => absurd (toB c) (fun e => nomatch e)) (fun _ => ?_)⟩
    refine ⟨_, rfl, _, rfl, p, dx, _, rfl, ho, fl_no (by decide +kernel), p, some x, pt, m, st, rfl, hf1, _, rfl, p, dx, _, rfl, ho, fl_no (by decide +kernel), p, some x, pt, m, st, rfl, hf1, ?_⟩
    refine ⟨a, ns, lst x, grt x, rfl, s1 _ _ ha, hs, h1, lst_grt x0, fun t b c H2 nt nb nc nbt s2 ht hb hc nbc => ?_⟩
    refine ⟨t, _, rfl, SqT.of ht, rfl, _, _, rfl, _, _, rfl, _, _, rfl, _, _, rfl, rfl, ?_⟩
    refine ⟨_, rfl, _, rfl, _, rfl, _, rfl, _, _, rfl, ?_⟩
    have S2 := s1.trans s2
    refine ⟨_, rfl, rfl, _, rfl, ite2 (fun cc => ?_) (fun cc => ?_)⟩
    · have e2 : gW x ns = 2 := V.int.inj (toB cc)
      refine ⟨_, rfl, (by show 2 ≤ sizeLine; decide), fun t2 ht2 => ?_⟩
      exact q2 e2 t2 _ (S2.free ht2) (S2.trans (same_new ht2)) upd_same
    · have e2 : gW x ns ≠ 2 := fun e => toNB cc (congrArg V.int e)
      refine ⟨_, rfl, _, rfl, _, rfl, _, rfl, rfl, _, rfl, ?_⟩
      have go : ∀ (d : Addr) (row : List Int), H d = none → H2 d = some (.lst (row.map V.int)) → row = (if widI (sUp x ns) = gW x ns then upR (lst x) (grt x) ns else lowR (lst x) (grt x) ns).reverse → ∀ t2, H2 t2 = none → Q (.ref t2) (upd H2 t2 (.tup [.int (gW x ns), .ref d])) := fun d row nd hd hr2 t2 ht2 => by
        refine qn e2 t2 d _ (S2.free ht2) nd (ne_of_none hd ht2) (S2.trans (same_new ht2)) upd_same ?_
        rw [upd_ne (ne_of_none hd ht2), hd, hr2]
      by_cases c2 : widI (sUp x ns) = gW x ns
      · refine iteC (decide_eq_true (congrArg V.int c2)) (iteT ⟨_, rfl, (by show 2 ≤ sizeLine; decide), fun t2 ht2 => ?_⟩)
        exact go c _ (s1.free nc) hc (by rw [if_pos c2]) t2 ht2
      · refine iteC (decide_eq_false (fun e => c2 (V.int.inj e))) (iteF ⟨_, rfl, (by show 2 ≤ sizeLine; decide), fun t2 ht2 => ?_⟩)
        exact go b _ (s1.free nb) hb (by rw [if_neg c2]) t2 ht2
end
end E1

namespace E1
open PySem PySem.Spec PyProof.Rows L2

structure Drw (a : Addr) (H H' : Hp) : Prop where
  but : SameBut a H H'
  new : ∀ b, H b = none → H' b = none
theorem Drw.refl (a : Addr) (H : Hp) : Drw a H H := ⟨SameBut.refl a H, fun _ h => h⟩
theorem Drw.trans {a : Addr} {H H1 H2 : Hp} (x : Drw a H H1) (y : Drw a H1 H2) : Drw a H H2 := ⟨x.but.trans y.but, fun b h => y.new b (x.new b h)⟩
def spTap : Sp := fun vs H Q _ => ∃ (a : Addr) (c k : Int), vs = [.ref a, .int k] ∧ WellAt H a c ∧ c ≤ 1000000 ∧ 0 ≤ k ∧ k < 3 ∧ ∀ (t : Int) (H' : Hp), t.natAbs < 1000000000000000000 → SameBut a H H' → Q (.int t) H'
def spSum (K : PySem.W.Frag) : Sp := fun vs H Q _ => ∃ (a c : Addr) (xs ys : List Int), vs = [.ref a, .ref c] ∧ H a = some (.lst (xs.map V.int)) ∧ H c = some (.lst (ys.map V.int)) ∧ Small xs ∧ xs.length = ys.length ∧ ∀ H', Same H H' → Q (.int (dotI xs ys.reverse)) H'
theorem sgn {r : Int} (h0 : 0 ≤ r) (h1 : r < 2) : 1 - 2 * r = 1 ∨ 1 - 2 * r = -1 := by omega
theorem dot_step (xs ys : List Int) (h : xs.length = ys.length) (i : Nat) (x y : Int) (hx : xs[i]? = some x) (hy : ys[i]? = some y) : dotI (xs.take (i + 1)) (ys.take (i + 1)) = dotI (xs.take i) (ys.take i) + x * y := by
  rw [List.take_succ, List.take_succ, hx, hy, Option.toList_some, Option.toList_some]
  apply dotI_snoc
  rw [List.length_take, List.length_take, h]
theorem rev_at (ys : List Int) (i : Nat) (h : i < ys.length) : ∃ y, ys.reverse[i]? = some y ∧ atI (ys.map V.int) ((ys.length : Int) - 1 - i) = some (.int y) := by
  refine ⟨ys[ys.length - 1 - i]'(by omega), ?_, ?_⟩
  · rw [List.getElem?_reverse h, List.getElem?_eq_getElem]
  · rw [show (ys.length : Int) - 1 - i = ((ys.length - 1 - i : Nat) : Int) by omega]
    refine atI_nat ?_
    rw [List.getElem?_map, List.getElem?_eq_getElem (by omega)]
    rfl

theorem WellAt.ne {H : Hp} {a p : Addr} {c : Int} (h : WellAt H a c) (n : H p = none) : p ≠ a := fun e => by
  obtain ⟨_, _, _, z, _⟩ := h
  rw [← e, n] at z
  cases z
def spRoom : Sp := fun vs H Q _ => ∃ wd n : Int, vs = [.int wd, .int n] ∧ 1 ≤ wd ∧ wd ≤ 1000 ∧ Q (.bl (roomB wd n)) H
theorem pick3s {k s : Int} (h0 : 0 ≤ k) (h1 : k < 3) (hs : s = 1 ∨ s = -1) : ∃ v : Int, atI [V.int 1, V.int (-1), V.int s] k = some (.int v) ∧ (v = 1 ∨ v = -1) := by
  rcases (by omega : k = 0 ∨ k = 1 ∨ k = 2) with rfl | rfl | rfl
  · exact ⟨1, atI_nat (j := 0) rfl, .inl rfl⟩
  · exact ⟨-1, atI_nat (j := 1) rfl, .inr rfl⟩
  · exact ⟨s, atI_nat (j := 2) rfl, hs⟩
theorem pick2i {k : Int} (x y : Int) (h0 : 0 ≤ k) (h1 : k < 2) : atI [V.int x, V.int y] k = some (.int (if k = 0 then x else y)) := by
  rcases (by omega : k = 0 ∨ k = 1) with rfl | rfl
  · exact atI_nat (j := 0) rfl
  · exact atI_nat (j := 1) rfl
section
variable {P : Program} {w : World} {K : PySem.W.Frag} {mg : Str → Option Value} {base : Heap}
theorem sc__law_cell_at : FnScope ["_law_script", "_law_k"] ["_law_script", "_law_k"] (defScope s__law_cell_at) := ⟨rfl, rfl, rfl, by decide +kernel, rfl, by decide +kernel, by decide +kernel⟩
theorem sc__law_well : FnScope ["_law_cell"] ["_law_cell"] (defScope s__law_well) := ⟨rfl, rfl, rfl, by decide +kernel, rfl, by decide +kernel, by decide +kernel⟩
theorem sc__law_draw : FnScope ["_law_well_here", "_law_many", "_law_found", "_law_number"] ["_law_well_here", "_law_many"] (defScope s__law_draw) := ⟨rfl, rfl, rfl, by decide +kernel, rfl, by decide +kernel, by decide +kernel⟩
theorem ok_cell {f : Addr} {fd : FuncData} {k : Nat} (F : Fun K "_law_cell_at" "_law_cell_at" s__law_cell_at f fd) (zl : mg "len" = none) : FnOk P w K mg base CX0 (k + 1) f fd ["_law_script", "_law_k"] (spCell K) := by
  refine F.ok sc__law_cell_at (fun vs H Q E h => ?_) (fun cdv A outer s H vs Q E hr h => ?_)
  · obtain ⟨a, ns, k, rfl, _⟩ := h
    rfl
  · obtain ⟨a, ns, k, rfl, hS, q⟩ := h
    refine ⟨_, (pss_cons (ps_if (pt_cmpR op_lt (pv 1) (pe_callB call_len_seq (by rfl) zl PySem.boot_len (pa_cons (pv 0) pa_nil)) (nomark _)) (pss_one (ps_ret (pe_ix ix_list (pv 0) (pv 1) (fun _ _ => rfl)))) pss_nil)
      (pss_one (ps_ret pe_int))), ?_⟩
    refine ⟨_, rfl, _, rfl, a, _, rfl, .inl hS, _, _, rfl, rfl, _, rfl, ite2 (fun c => ?_) (fun c => ?_)⟩
    · have hk : k < ns.length := by
        have := toB c
        rw [List.length_map] at this
        omega
      refine ⟨_, rfl, _, rfl, a, _, k, .int (ns.getD k 0), rfl, rfl, hS, atI_nat ?_, q⟩
      rw [List.getElem?_map, List.getElem?_eq_getElem hk, List.getD_eq_getElem?_getD, List.getElem?_eq_getElem hk]
      rfl
    · have hk : ¬ k < ns.length := fun z => by
        have := toNB c
        rw [List.length_map] at this
        omega
      have e : ns.getD k 0 = 0 := by
        rw [List.getD_eq_getElem?_getD, List.getElem?_eq_none (by omega)]
        rfl
      rw [e] at q
      exact q
theorem ok_well {f : Addr} {fd : FuncData} {k : Nat} (F : Fun K "_law_well" "_law_well" s__law_well f fd) (zi : mg "int" = none) : FnOk P w K mg base CX0 (k + 1) f fd ["_law_cell"] spWell := by
  refine F.ok sc__law_well (fun vs H Q E h => ?_) (fun cdv A outer s H vs Q E hr h => ?_)
  · obtain ⟨c, rfl, _⟩ := h
    rfl
  · obtain ⟨c, rfl, q⟩ := h
    refine ⟨_, (pss_one (ps_ret (pe_lst (pa_cons (pe_op op_mul (pv 0) (pe_callTy call_int1 (by rfl) zi (by decide +kernel) (pa_cons (pe_cmpR op_ge (pv 0) (pe_op op_pow pe_int pe_int) (nomark _)) pa_nil))) (pa_cons (pe_op op_mod (pv 0) pe_int) (pa_cons pe_int pa_nil)))))), ?_⟩
    refine ⟨_, rfl, _, rfl, _, _, rfl, rfl, ⟨by decide, by decide, by decide⟩, _, _, rfl, rfl, .inr ⟨_, rfl, _, _, rfl, rfl, .inr ?_, ?_⟩⟩
    · split <;> decide
    · refine ⟨_, rfl, _, _, rfl, rfl, (by show (0 : Int) < 2147483647; decide), (by show 3 ≤ sizeLine; decide), fun p hp => ?_⟩
      exact q p hp _ (same_new hp) ⟨_, _, _, upd_same, Int.emod_nonneg _ (by decide), Int.emod_lt_of_pos _ (by decide), Int.le_refl _, Int.le_refl _⟩
theorem ok_draw {f : Addr} {fd : FuncData} {k : Nat} (F : Fun K "_law_draw" "_law_draw" s__law_draw f fd) : FnOk P w K mg base CX0 (k + 1) f fd ["_law_well_here", "_law_many"] spDraw := by
  refine F.ok sc__law_draw (fun vs H Q E h => ?_) (fun cdv A outer s H vs Q E hr h => ?_)
  · obtain ⟨a, c, m, rfl, _⟩ := h
    rfl
  · obtain ⟨a, c, m, rfl, ⟨x, y, z, hw, y0, y1, z0, z1⟩, hc, m0, m1, q⟩ := h
    have fr : ∀ o b, H b = none → (upd H a o) b = none := fun o b hb => by
      rw [upd_ne (fun e => by rw [e, hw] at hb; cases hb)]
      exact hb
    refine ⟨_, (pss_cons (ps_if (pt_cmpR op_gt (pe_ix ix_list (pv 0) pe_int (fun _ _ => rfl)) pe_int (nomark _)) (pss_cons (ps_set (i := 2) sc__law_draw.nd rfl (.inl rfl) (pe_op op_mod (pe_ix ix_list (pv 0) pe_int (fun _ _ => rfl)) (pv 1)))
      (pss_cons (ps_asg (pe_op op_fdivW (pe_ix ix_list (pv 0) pe_int (fun _ _ => rfl)) (pv 1)) (pg_sub (pv 0) pe_int set_list))
      (pss_one (ps_ret (pv 2))))) pss_nil)
      (pss_cons (ps_asg (pe_op op_add (pe_ix ix_list (pv 0) pe_int (fun _ _ => rfl)) pe_int) (pg_sub (pv 0) pe_int set_list))
      (pss_cons (ps_set (i := 3) sc__law_draw.nd rfl (.inl rfl) (pe_op op_mod (pe_op op_pow (pe_op op_add (pe_op op_add (pe_ix ix_list (pv 0) pe_int (fun _ _ => rfl)) (pe_op op_mul pe_int (pe_ix ix_list (pv 0) pe_int (fun _ _ => rfl)))) pe_int) pe_int) pe_int))
      (pss_cons (ps_set (i := 3) sc__law_draw.nd rfl (.inl rfl) (pe_op op_mod (pe_op op_mul (pv 3) (pe_op op_add (pe_op op_fdiv (pv 3) pe_int) pe_int)) pe_int))
      (pss_one (ps_ret (pe_op op_mod (pe_op op_mod (pe_op op_mul (pv 3) (pe_op op_add (pe_op op_fdiv (pv 3) pe_int) pe_int)) pe_int) (pv 1)))))))), ?_⟩
    refine ⟨_, rfl, a, _, 0, .int x, rfl, rfl, SqL.of hw, a0, x, 0, rfl, rfl, _, rfl, ite2 (fun c => ?_) (fun c => ?_)⟩
    · refine ⟨_, rfl, a, _, 0, .int x, rfl, rfl, SqL.of hw, a0, _, rfl, x, m, rfl, rfl, m0, ?_⟩
      refine ⟨_, rfl, a, _, 0, .int x, rfl, rfl, SqL.of hw, a0, _, rfl, x, m, rfl, rfl, wide_div m0 m1 (by decide) (Nat.le_refl _), _, rfl, a, _, 0, 0, rfl, rfl, hw, rfl, ?_⟩
      refine ⟨_, rfl, q _ _ (Int.emod_nonneg _ (by omega)) (Int.emod_lt_of_pos _ m0) SameBut.upd (fr _) ⟨_, _, _, upd_same, y0, y1, z0, by omega⟩⟩
    · refine ⟨_, rfl, a, _, 2, .int z, rfl, rfl, SqL.of hw, a2, z, 1, rfl, rfl, _, rfl, a, _, 2, 2, rfl, rfl, hw, rfl, ?_⟩
      have hw2 : (upd H a (.lst [V.int x, V.int y, V.int (z + 1)])) a = some (.lst [V.int x, V.int y, V.int (z + 1)]) := upd_same
      have n5 : 0 ≤ y + 7919 * (z + 1) + 1 ∧ y + 7919 * (z + 1) + 1 < 18446744073709551616 := by omega
      refine ⟨_, rfl, a, _, 1, .int y, rfl, rfl, SqL.of hw2, a1, _, rfl, a, _, 2, .int (z + 1), rfl, rfl, SqL.of hw2, a2, _, _, rfl, rfl, .inl ⟨by decide, by decide⟩, _, _, rfl, rfl, _, _, rfl, rfl, _, _, rfl, rfl, ⟨by decide, by decide, ?_⟩, _, _, rfl, rfl, (by show (0 : Int) < 2147483647; decide), ?_⟩
      · show (y + 7919 * (z + 1) + 1).natAbs < 18446744073709551616
        omega
      · generalize hn : (y + 7919 * (z + 1) + 1) ^ (5 : Int).toNat % 2147483647 = n
        have n0 : 0 ≤ n := by rw [← hn]; exact Int.emod_nonneg _ (by decide)
        have n1 : n < 2147483647 := by rw [← hn]; exact Int.emod_lt_of_pos _ (by decide)
        refine ⟨_, rfl, _, rfl, _, _, rfl, rfl, ⟨by decide, by decide⟩, _, _, rfl, rfl, _, _, rfl, rfl, .inl ⟨by omega, by omega⟩, _, _, rfl, rfl, (by show (0 : Int) < 2147483629; decide), ?_⟩
        generalize hm : n * (n / 1009 + 69621) % 2147483629 = u
        have u0 : 0 ≤ u := by rw [← hm]; exact Int.emod_nonneg _ (by decide)
        have u1 : u < 2147483629 := by rw [← hm]; exact Int.emod_lt_of_pos _ (by decide)
        refine ⟨_, rfl, _, rfl, _, _, rfl, rfl, ⟨by decide, by decide⟩, _, _, rfl, rfl, _, _, rfl, rfl, .inl ⟨by omega, by omega⟩, _, _, rfl, rfl, (by show (0 : Int) < 2147483587; decide), _, rfl, _, _, rfl, rfl, m0, ?_⟩
        exact q _ _ (Int.emod_nonneg _ (by omega)) (Int.emod_lt_of_pos _ m0) SameBut.upd (fr _) ⟨_, _, _, upd_same, y0, y1, by omega, by omega⟩
theorem sc__law_tap : FnScope ["_law_well_here", "_law_sign_kind", "_law_sort", "_law_sign", "_law_found"] ["_law_well_here", "_law_sign_kind"] (defScope s__law_tap) := ⟨rfl, rfl, rfl, by decide +kernel, rfl, by decide +kernel, by decide +kernel⟩
theorem ok__law_tap {f : Addr} {fd : FuncData} (F : Fun K "_law_tap" "_law_tap" s__law_tap f fd) (c__law_draw : Cal P w K mg base 1 "_law_draw" ["_law_well_here", "_law_many"] spDraw) : FnOk P w K mg base CX0 2 f fd ["_law_well_here", "_law_sign_kind"] spTap := by
  refine F.ok sc__law_tap (fun vs H Q E h => ?_) (fun cdv A outer s H vs Q E hr h => ?_)
  · obtain ⟨a, c, kd, rfl, _⟩ := h
    rfl
  · obtain ⟨a, c, kd, rfl, w0, hc, k0, k1, q⟩ := h
    refine ⟨_, (pss_cons (ps_set (i := 2) sc__law_tap.nd rfl (.inl rfl) (pe_cal c__law_draw hr (pa_cons (pv 0) (pa_cons pe_int pa_nil))))
      (pss_cons (ps_set (i := 3) sc__law_tap.nd rfl (.inl rfl) (pe_ix ix_list (pe_lst (pa_cons pe_int (pa_cons (pe_un un_neg pe_int) (pa_cons (pe_op op_sub pe_int (pe_op op_mul pe_int (pe_cal c__law_draw hr (pa_cons (pv 0) (pa_cons pe_int pa_nil))))) pa_nil)))) (pv 1) (fun _ _ => rfl)))
      (pss_cons (ps_if (pt_cmpR op_eq (pv 2) pe_int (nomark _)) (pss_one (ps_ret (pe_op op_mul (pv 3) (pe_cal c__law_draw hr (pa_cons (pv 0) (pa_cons pe_int pa_nil)))))) pss_nil)
      (pss_cons (ps_set (i := 4) sc__law_tap.nd rfl (.inl rfl) (pe_cal c__law_draw hr (pa_cons (pv 0) (pa_cons (pe_op op_pow pe_int pe_int) pa_nil))))
      (pss_one (ps_ret (pe_op op_mul (pv 3) (pe_op op_add (pe_op op_mul (pv 4) (pe_ix ix_list (pe_lst (pa_cons pe_int (pa_cons (pe_op op_pow pe_int pe_int) pa_nil))) (pe_op op_sub (pv 2) pe_int) (fun _ _ => rfl))) (pe_cal c__law_draw hr (pa_cons (pv 0) (pa_cons (pe_ix ix_list (pe_lst (pa_cons pe_int (pa_cons (pe_op op_pow pe_int pe_int) pa_nil))) (pe_op op_sub (pv 2) pe_int) (fun _ _ => rfl)) pa_nil))))))))))), ?_⟩
    refine ⟨_, rfl, a, c, 3, rfl, w0, by omega, by decide, by decide, fun r H1 r0 r1 d1 e1 w1 => ?_⟩
    refine ⟨_, rfl, _, rfl, a, _, 2, rfl, w1, by omega, by decide, by decide, fun s0 H2 s1 s2 d2 e2 w2 => ?_⟩
    have D2 := d1.trans d2
    refine ⟨_, _, rfl, rfl, .inl ⟨by decide, by decide⟩, _, _, rfl, rfl, (by show 3 ≤ sizeLine; decide), fun l hl => ?_⟩
    obtain ⟨sn, hsn, sg⟩ := pick3s k0 k1 (sgn s1 s2)
    refine ⟨_, rfl, l, _, kd, .int sn, rfl, rfl, SqL.of upd_same, hsn, ?_⟩
    have w3 := w2.same (same_new (o := .lst [.int 1, .int (-1), .int (1 - 2 * s0)]) hl)
    have D3 := D2.trans (SameBut.of (same_new (o := .lst [.int 1, .int (-1), .int (1 - 2 * s0)]) hl))
    generalize upd H2 l (.lst [.int 1, .int (-1), .int (1 - 2 * s0)]) = H3 at w3 D3 ⊢
    refine ⟨_, rfl, rfl, _, rfl, ite2 (fun _ => ?_) (fun c0 => ?_)⟩
    · refine ⟨_, rfl, _, rfl, a, _, 3, rfl, w3, by omega, by decide, by decide, fun u H4 u0 u1 d4 e4 w4 => ?_⟩
      refine ⟨_, _, rfl, rfl, (by rcases sg with rfl | rfl; exact .inl ⟨by decide, by decide⟩; exact .inl ⟨by decide, by decide⟩), q _ _ ?_ (D3.trans d4)⟩
      rcases sg with h | h <;> rw [h] <;> omega
    · have rn : r ≠ 0 := fun e => toNB c0 (congrArg V.int e)
      refine ⟨_, rfl, _, _, rfl, rfl, ⟨by decide, by decide, by decide⟩, a, _, 10 ^ (9 : Int).toNat, rfl, w3, by omega, by decide, by decide, fun u H4 u0 u1 d4 e4 w4 => ?_⟩
      have D4 := D3.trans d4
      replace u1 : u < 1000000000 := u1
      refine ⟨_, rfl, _, rfl, _, _, rfl, rfl, ⟨by decide, by decide, by decide⟩, (by show 2 ≤ sizeLine; decide), fun l2 hl2 => ?_⟩
      refine ⟨_, rfl, _, _, rfl, rfl, l2, _, _, _, rfl, rfl, SqL.of upd_same, pick2i _ _ (by omega) (by omega), ?_⟩
      have w5 := w4.same (same_new (o := .lst [.int 0, .int (10 ^ (9 : Int).toNat)]) hl2)
      have D5 := D4.trans (SameBut.of (same_new (o := .lst [.int 0, .int (10 ^ (9 : Int).toNat)]) hl2))
      generalize upd H4 l2 (.lst [.int 0, .int (10 ^ (9 : Int).toNat)]) = H5 at w5 D5 ⊢
      refine ⟨_, _, rfl, rfl, .inl ⟨by omega, by omega⟩, _, rfl, _, _, rfl, rfl, ⟨by decide, by decide, by decide⟩, (by show 2 ≤ sizeLine; decide), fun l3 hl3 => ?_⟩
      refine ⟨_, rfl, _, _, rfl, rfl, l3, _, _, _, rfl, rfl, SqL.of upd_same, pick2i _ _ (by omega) (by omega), ?_⟩
      have w6 := w5.same (same_new (o := .lst [.int 20, .int (10 ^ (9 : Int).toNat)]) hl3)
      have D6 := D5.trans (SameBut.of (same_new (o := .lst [.int 20, .int (10 ^ (9 : Int).toNat)]) hl3))
      generalize upd H5 l3 (.lst [.int 20, .int (10 ^ (9 : Int).toNat)]) = H6 at w6 D6 ⊢
      have mm : ∀ b : Prop, [Decidable b] → 0 < (if b then (20 : Int) else 10 ^ (9 : Int).toNat) ∧ (if b then (20 : Int) else 10 ^ (9 : Int).toNat) ≤ 1000000000 := fun b _ => by
        split
        · exact ⟨by decide, by decide⟩
        · exact ⟨by decide, by decide⟩
      have m0 := mm (r - 1 = 0)
      refine ⟨a, _, _, rfl, w6, by omega, m0.1, Nat.lt_of_le_of_lt (show _ ≤ 1000000000 by omega) (by decide), fun v H7 v0 v1 d7 e7 w7 => ?_⟩
      have v2 : v < 1000000000 := by omega
      refine ⟨_, _, rfl, rfl, _, _, rfl, rfl, (by rcases sg with rfl | rfl; exact .inl ⟨by decide, by decide⟩; exact .inl ⟨by decide, by decide⟩), q _ _ ?_ (D6.trans d7)⟩
      have nn : (if r - 1 = 0 then (0 : Int) else 10 ^ (9 : Int).toNat) = 0 ∨ (if r - 1 = 0 then (0 : Int) else 10 ^ (9 : Int).toNat) = 1000000000 := by
        split
        · exact .inl rfl
        · exact .inr (by decide)
      rcases nn with h1 | h1 <;> rw [h1] <;> rcases sg with h | h <;> rw [h] <;> omega
theorem sc__law_sum : FnScope ["_law_tap_list", "_law_row", "_law_found", "_law_at", "_law_tap_here"] ["_law_tap_list", "_law_row"] (defScope s__law_sum) := ⟨rfl, rfl, rfl, by decide +kernel, rfl, by decide +kernel, by decide +kernel⟩
theorem ok__law_sum {f : Addr} {fd : FuncData} {k : Nat} (F : Fun K "_law_sum" "_law_sum" s__law_sum f fd) (z : Zs mg) : FnOk P w K mg base CX0 (k + 1) f fd ["_law_tap_list", "_law_row"] (spSum K) := by
  refine F.ok sc__law_sum (fun vs H Q E h => ?_) (fun cdv A outer s H vs Q E hr h => ?_)
  · obtain ⟨a, c, xs, ys, rfl, _⟩ := h
    rfl
  · obtain ⟨a, c, xs, ys, rfl, ha, hc, hs, hl, q⟩ := h
    refine ⟨_, (pss_cons (ps_set (i := 2) sc__law_sum.nd rfl (.inl rfl) pe_int)
      (pss_cons (ps_for PassesOwn.never rfl (pi_enum (by rfl) z.enumerate (pa_cons (pv 0) pa_nil)) (pg_tup (by rfl) (pgs_cons (pg_name (i := 3) sc__law_sum.nd rfl (.inl rfl)) (pgs_cons (pg_name (i := 4) sc__law_sum.nd rfl (.inl rfl)) pgs_nil))) (pss_one (ps_set (i := 2) sc__law_sum.nd rfl (.inl rfl) (pe_op op_add (pv 2) (pe_op op_mul (pv 4) (pe_ix ix_list (pv 1) (pe_op op_sub (pe_op op_sub (pe_callB call_len_seq (by rfl) z.len PySem.boot_len (pa_cons (pv 1) pa_nil)) pe_int) (pv 3)) (fun _ _ => rfl)))))))
      (pss_one (ps_ret (pv 2))))), ?_⟩
    have lr : xs.length = ys.reverse.length := by rw [List.length_reverse, hl]
    refine ⟨_, rfl, a, _, rfl, SqL.of ha, for_it (walk_enum (K := K) (a := a) (xs := xs.map V.int)) (fun i σ H' => ∃ y3 y4 : Option V, σ = [some (.ref a), some (.ref c), some (.int (dotI (xs.take i) (ys.reverse.take i))), y3, y4] ∧ Same H H') ⟨none, none, rfl, Same.refl _⟩ (fun i σ H' _ hP => ?_) (fun i v σ H1 H2 hi hP hY => ?_) (fun σ H' hP => ?_)⟩
    · obtain ⟨y3, y4, rfl, s1⟩ := hP
      exact SqL.of (s1 _ _ ha)
    · obtain ⟨y3, y4, rfl, s1⟩ := hP
      obtain ⟨Tp, u, v', rfl, nT, rfl, e1, e2⟩ := hY
      cases e1
      replace e2 : (xs.map V.int)[i]? = some v' := e2
      rw [List.getElem?_map] at e2
      obtain ⟨d, hn, rfl⟩ := Option.map_eq_some_iff.mp e2
      have li := (List.getElem?_eq_some_iff.mp hn).1
      have hd := hs.2 d (List.mem_of_getElem? hn)
      have s2 := s1.trans (same_new (o := .tup [.int (i : Nat), .int d]) nT)
      obtain ⟨y, hy, hat⟩ := rev_at ys i (by omega)
      refine ⟨Tp, [.int (i : Nat), .int d], rfl, SqT.of upd_same, rfl, _, _, rfl, _, _, rfl, rfl, ?_⟩
      refine ⟨_, rfl, _, rfl, _, rfl, _, rfl, c, _, rfl, .inl (SqL.of (s2 _ _ hc)), _, _, rfl, rfl, _, rfl, _, _, rfl, rfl, c, _, _, .int y, rfl, rfl, SqL.of (s2 _ _ hc), (by rw [List.length_map]; exact hat), _, _, rfl, rfl, .inl ⟨by omega, by omega⟩, _, _, rfl, rfl, some (.int (i : Nat)), some (.int d), ?_, s2⟩
      rw [dot_step xs ys.reverse lr i d y hn hy]
      rfl
    · obtain ⟨y3, y4, rfl, s1⟩ := hP
      have := q _ s1
      rw [List.length_map, List.take_length, lr, List.take_length]
      exact ⟨_, rfl, this⟩
theorem sc__law_room : FnScope ["_law_width", "_law_number"] ["_law_width", "_law_number"] (defScope s__law_room) := ⟨rfl, rfl, rfl, by decide +kernel, rfl, by decide +kernel, by decide +kernel⟩
theorem ok__law_room {f : Addr} {fd : FuncData} {k : Nat} (F : Fun K "_law_room" "_law_room" s__law_room f fd) : FnOk P w K mg base CX0 (k + 1) f fd ["_law_width", "_law_number"] spRoom := by
  refine F.ok sc__law_room (fun vs H Q E h => ?_) (fun cdv A outer s H vs Q E hr h => ?_)
  · obtain ⟨wd, n, rfl, _⟩ := h
    rfl
  · obtain ⟨wd, n, rfl, h1, h2, q⟩ := h
    refine ⟨_, (pss_one (ps_ret (pe_chain op_le op_lt (pe_op op_sub pe_int (pe_op op_shl pe_int (pe_op op_sub (pv 0) pe_int))) (pv 1) (pe_op op_shl pe_int (pe_op op_sub (pv 0) pe_int))))), ?_⟩
    refine ⟨_, rfl, _, _, rfl, rfl, _, _, rfl, rfl, ⟨by omega, by omega, by decide⟩, _, _, rfl, rfl, _, rfl, _, _, rfl, rfl, _, rfl, ?_⟩
    have q' : Q (.bl (decide (0 - 2 ^ (wd - 1).toNat ≤ n) && decide (n < 2 ^ (wd - 1).toNat))) H := q
    rw [Int.one_mul]
    by_cases c : 0 - 2 ^ (wd - 1).toNat ≤ n
    · rw [decide_eq_true c] at q' ⊢
      refine iteT ⟨_, rfl, _, _, rfl, rfl, _, _, rfl, rfl, ⟨by omega, by omega, by decide⟩, _, _, rfl, rfl, ?_⟩
      rw [Bool.true_and] at q'
      show Q (.bl (decide (n < 1 * 2 ^ (wd - 1).toNat))) H
      rw [Int.one_mul]
      exact q'
    · rw [decide_eq_false c] at q' ⊢
      exact iteF q'
end
end E1

namespace E1
open PySem PySem.Spec PyProof.Rows L2

def spLaw (K : PySem.W.Frag) : Sp := fun vs H Q _ => ∃ (a : Addr) (ns : List Int), vs = [.ref a] ∧ SqL K H a (ns.map V.int) ∧ ns.length ≤ 63 ∧ ∀ H', Q (.bl true) H'
theorem same_but {H H1 H2 : Hp} {p : Addr} (s : Same H H1) (b : SameBut p H1 H2) (hp : H p = none) : Same H H2 := fun a o e => b a o (ne_of_none e hp) (s a o e)
theorem refInt {a : Addr} {x y : Int} (h : x = y) : [V.ref a, V.int x] = [V.ref a, V.int y] := by rw [h]
theorem pick_at {l h : Int} {b : Bool} : atI [V.int l, V.int h] (if b = true then (1 : Int) else 0) = some (.int (if b = true then h else l)) := by
  cases b
  · exact atI_nat (j := 0) rfl
  · exact atI_nat (j := 1) rfl
theorem pick7 {r : Int} (h0 : 0 ≤ r) (h1 : r < 7) : ∃ m : Mn, atI [V.str "down", V.str "up", V.str "in", V.str "out", V.str "half", V.str "even", V.str "far"] r = some (.str m.str) := by
  rcases (by omega : r = 0 ∨ r = 1 ∨ r = 2 ∨ r = 3 ∨ r = 4 ∨ r = 5 ∨ r = 6) with rfl | rfl | rfl | rfl | rfl | rfl | rfl
  · exact ⟨.down, rfl⟩
  · exact ⟨.up, rfl⟩
  · exact ⟨.inn, rfl⟩
  · exact ⟨.out, rfl⟩
  · exact ⟨.half, rfl⟩
  · exact ⟨.even, rfl⟩
  · exact ⟨.far, rfl⟩
theorem pick2 {r : Int} (h0 : 0 ≤ r) (h1 : r < 2) : ∃ st : Bool, atI [V.str "wrap", V.str "stop"] r = some (.str (endS st)) := by
  rcases (by omega : r = 0 ∨ r = 1) with rfl | rfl
  · exact ⟨false, rfl⟩
  · exact ⟨true, rfl⟩

theorem pickR {k x y lo hi : Int} (h0 : 0 ≤ k) (h1 : k < 2) (hx : lo ≤ x ∧ x ≤ hi) (hy : lo ≤ y ∧ y ≤ hi) : ∃ v : Int, atI [V.int x, V.int y] k = some (.int v) ∧ lo ≤ v ∧ v ≤ hi := by
  rcases (by omega : k = 0 ∨ k = 1) with rfl | rfl
  · exact ⟨x, atI_nat (j := 0) rfl, hx⟩
  · exact ⟨y, atI_nat (j := 1) rfl, hy⟩
theorem al2 (n : Nat) {H : Hp} {p t : Addr} {x : Int} {u v : V} (h1 : H p = some (.tup [.int x, u])) (h2 : H t = some (.tup [.int x, v])) (hb : Al H (n + 1) u v) : Al H (n + 2) (.ref p) (.ref t) := by
  refine .inr ⟨p, t, [.int x, u], [.int x, v], rfl, rfl, rfl, (by show 2 ≤ 1000; decide), fun i a b e1 e2 => ?_, .inl ⟨h1, h2⟩⟩
  match i, e1, e2 with
  | 0, e1, e2 => cases e1; cases e2; exact Al.int x
  | 1, e1, e2 => cases e1; cases e2; exact hb
  | i + 2, e1, _ => cases e1
abbrev rowB (x : Int) (ns : List Int) : List Int := if widI (sUp x ns) = gW x ns then upR (lst x) (grt x) ns else lowR (lst x) (grt x) ns
theorem gw_facts (x : Int) (ns : List Int) (h1 : 2 ≤ x) (h2 : x ≤ 64) (hs : Small ns) : 2 ≤ gW x ns ∧ gW x ns ≤ 300 ∧ roomB (gW x ns) (sLow x ns) = true ∧ roomB (gW x ns) (sUp x ns) = true := by
  obtain ⟨m1, m2, m3⟩ : widI (sLow x ns) ≤ gW x ns ∧ widI (sUp x ns) ≤ gW x ns ∧ (gW x ns = widI (sLow x ns) ∨ gW x ns = widI (sUp x ns)) := max_facts _ _
  have b1 := bits_small (pick_small x h1 h2 (fun t => decide (t < 0)) ns hs)
  have b2 := bits_small (pick_small x h1 h2 (fun t => decide (t > 0)) ns hs)
  have w1 := wid_ge (sLow x ns)
  have c1 : widI (sLow x ns) ≤ 300 := by unfold widI; split <;> omega
  have c2 : widI (sUp x ns) ≤ 300 := by unfold widI; split <;> omega
  exact ⟨by omega, by omega, wid_room m1, wid_room m2⟩
theorem gw_less (x : Int) (ns : List Int) (h : gW x ns ≠ 2) (h1 : 2 ≤ gW x ns) : roomB (gW x ns - 1) (sUp x ns) = decide (¬ widI (sUp x ns) = gW x ns) ∧ roomB (gW x ns - 1) (dotI ns (rowB x ns)) = false := by
  obtain ⟨m1, m2, m3⟩ : widI (sLow x ns) ≤ gW x ns ∧ widI (sUp x ns) ≤ gW x ns ∧ (gW x ns = widI (sLow x ns) ∨ gW x ns = widI (sUp x ns)) := max_facts _ _
  by_cases c : widI (sUp x ns) = gW x ns
  · have e : roomB (gW x ns - 1) (sUp x ns) = false := wid_not (by omega) (by omega)
    constructor
    · rw [e, decide_eq_false (fun z => z c)]
    · unfold rowB
      rw [if_pos c]
      exact e
  · have e : roomB (gW x ns - 1) (sUp x ns) = true := wid_room (by omega)
    constructor
    · rw [e, decide_eq_true c]
    · unfold rowB
      rw [if_neg c]
      exact wid_not (n := sLow x ns) (by omega) (by omega)
theorem rowB_len (x : Int) (ns : List Int) : (rowB x ns).length = ns.length := by
  unfold rowB
  split <;> exact pick_len _ _ _ _
section
variable {P : Program} {w : World} {K : PySem.W.Frag} {mg : Str → Option Value} {base : Heap}
theorem sc_law : FnScope ["_law_script", "_law_well_here", "_law_sign_kind", "_law_many", "_law_width", "_law_manner", "_law_pattern", "_law_tap_list", "_law_low", "_law_high", "_law_below_row", "_law_above", "_law_handed", "_law_found", "_law_room_here", "_law_row", "_law_due", "_law_k", "_law_tap_here"] ["_law_script"] (defScope s_law) := ⟨rfl, rfl, rfl, by decide +kernel, rfl, by decide +kernel, by decide +kernel⟩
theorem ok_law {f : Addr} {fd : FuncData} {C : Addr} (T : FTxt K mg C) (F : Fun K "law" "law" s_law f fd) (z : Zs mg) (c__law_cell_at : Cal P w K mg base 1 "_law_cell_at" ["_law_script", "_law_k"] (spCell K)) (c__law_well : Cal P w K mg base 1 "_law_well" ["_law_cell"] spWell) (c__law_draw : Cal P w K mg base 1 "_law_draw" ["_law_well_here", "_law_many"] spDraw) (c__law_tap : Cal P w K mg base 2 "_law_tap" ["_law_well_here", "_law_sign_kind"] spTap) (c__law_sum : Cal P w K mg base 1 "_law_sum" ["_law_tap_list", "_law_row"] (spSum K)) (c__law_room : Cal P w K mg base 1 "_law_room" ["_law_width", "_law_number"] spRoom) (c__law_same : Cal P w K mg base 4 "_law_same" ["_law_found", "_law_due"] (spSameN 3)) (c_Form_4 : CalC P w K mg base 3 "Form" C ["self", "width", "point", "manner", "ends"] [] (spInit C)) (c_guard : Cal P w K mg base 5 "guard" ["taps", "form"] (spGuard C)) (c_guard_0_form_taps : CalK P w K mg base 5 "guard" ["taps", "form"] 0 ["form", "taps"] (fun vs zs => vs ++ zs.reverse) (spGuard C)) : FnOk P w K mg base CX0 6 f fd ["_law_script"] (spLaw K) := by
  refine F.ok sc_law (fun vs H Q E h => ?_) (fun cdv A outer s H vs Q E hr h => ?_)
  · obtain ⟨a, ns, rfl, _⟩ := h
    rfl
  · obtain ⟨a, ns, rfl, hS, hn, q⟩ := h
    refine ⟨_, (pss_cons (ps_set (i := 1) sc_law.nd rfl (.inl rfl) (pe_cal c__law_well hr (pa_cons (pe_cal c__law_cell_at hr (pa_cons (pv 0) (pa_cons pe_int pa_nil))) pa_nil)))
      (pss_cons (ps_set (i := 2) sc_law.nd rfl (.inr rfl) (pe_cal c__law_draw hr (pa_cons (pv 1) (pa_cons pe_int pa_nil))))
      (pss_cons (ps_set (i := 3) sc_law.nd rfl (.inl rfl) (pe_ix ix_list (pe_lst (pa_cons (pe_op op_add pe_int (pe_cal c__law_draw hr (pa_cons (pv 1) (pa_cons pe_int pa_nil)))) (pa_cons (pe_op op_add pe_int (pe_cal c__law_draw hr (pa_cons (pv 1) (pa_cons pe_int pa_nil)))) pa_nil))) (pe_cal c__law_draw hr (pa_cons (pv 1) (pa_cons pe_int pa_nil))) (fun _ _ => rfl)))
      (pss_cons (ps_set (i := 4) sc_law.nd rfl (.inl rfl) (pe_ix ix_list (pe_lst (pa_cons (pe_op op_add pe_int (pe_cal c__law_draw hr (pa_cons (pv 1) (pa_cons pe_int pa_nil)))) (pa_cons (pe_op op_add pe_int (pe_cal c__law_draw hr (pa_cons (pv 1) (pa_cons pe_int pa_nil)))) pa_nil))) (pe_cal c__law_draw hr (pa_cons (pv 1) (pa_cons pe_int pa_nil))) (fun _ _ => rfl)))
      (pss_cons (ps_set (i := 5) sc_law.nd rfl (.inl rfl) (pe_ix ix_list (pe_lst (pa_cons pe_str (pa_cons pe_str (pa_cons pe_str (pa_cons pe_str (pa_cons pe_str (pa_cons pe_str (pa_cons pe_str pa_nil)))))))) (pe_cal c__law_draw hr (pa_cons (pv 1) (pa_cons pe_int pa_nil))) (fun _ _ => rfl)))
      (C8.pss_cut (ps_set (i := 6) sc_law.nd rfl (.inl rfl) (pe_calc c_Form_4 hr (pa_cons (pv 4) (pa_cons (pe_op op_sub (pe_cal c__law_draw hr (pa_cons (pv 1) (pa_cons pe_int pa_nil))) pe_int) (pa_cons (pv 5) (pa_cons (pe_ix ix_list (pe_lst (pa_cons pe_str (pa_cons pe_str pa_nil))) (pe_cal c__law_draw hr (pa_cons (pv 1) (pa_cons pe_int pa_nil))) (fun _ _ => rfl)) pa_nil))))))
      (pss_cons (ps_setLc (i := 7) (own := [("_law_k", 17)]) (g := gName 17) (tt := tYes) (te := (tCall spTap [] E0 (tCons (tCall spWell [] E0 (tCons (tOp (rI0 fun i j => V.int (i + j)) (tCall (spCell K) [] E0 (tCons (tVar 0) (tCons (tOp (rI0 fun i j => V.int (i + j)) (tC (.int 1)) (tVar 17)) tNil))) (tVar 17)) tNil)) (tCons (tVar 2) tNil)))) (by rfl) sc_law.nd rfl rfl (sw_true rfl rfl rfl (by decide +kernel)) (pi_range1 (by rfl) z.range (pa_cons (pv 3) pa_nil)) (blkOk_by (own := [("_law_k", 17)]) (N := ["_law_script", "_law_well_here", "_law_sign_kind", "_law_many", "_law_width", "_law_manner", "_law_pattern", "_law_tap_list", "_law_low", "_law_high", "_law_below_row", "_law_above", "_law_handed", "_law_found", "_law_room_here", "_law_row", "_law_due", "_law_k", "_law_tap_here"]) (sc := defScope s_law) (by decide +kernel)) (fun _ _ _ _ _ => by exact (pg_name (i := 17) sc_law.nd rfl (.inl rfl))) (fun _ _ _ _ _ => by exact pts_nil) (fun _ _ _ _ _ => by exact (pe_cal c__law_tap hr (pa_cons (pe_cal c__law_well hr (pa_cons (pe_op op_add (pe_cal c__law_cell_at hr (pa_cons (pv 0) (pa_cons (pe_op op_add pe_int (pv 17)) pa_nil))) (pv 17)) pa_nil)) (pa_cons (pv 2) pa_nil)))))
      (pss_cons (ps_set (i := 8) sc_law.nd rfl (.inr rfl) (pe_op op_sub pe_int (pe_op op_shl pe_int (pe_op op_sub (pv 4) pe_int))))
      (pss_cons (ps_set (i := 9) sc_law.nd rfl (.inr rfl) (pe_op op_sub (pe_op op_shl pe_int (pe_op op_sub (pv 4) pe_int)) pe_int))
      (pss_cons (ps_set (i := 10) sc_law.nd rfl (.inl rfl) (pe_revL (pe_lc (own := [("_law_tap_here", 18)]) (g := gName 18) (tt := tYes) (te := (tOp (rIxL K) (tLst (tCons (tVar 8) (tCons (tVar 9) tNil))) (tCB (fun xs H Q => (∃ i, xs = [V.int i] ∧ Q (.int i) H) ∨ ∃ k, xs = [V.bl k] ∧ Q (.int (if k then 1 else 0)) H) (tCons (tOp (rI0 fun i j => V.bl (decide (i < j))) (tVar 18) (tC (.int 0))) tNil)))) (by rfl) sc_law.nd (pi_list (pv 7)) (blkOk_by (own := [("_law_tap_here", 18)]) (N := ["_law_script", "_law_well_here", "_law_sign_kind", "_law_many", "_law_width", "_law_manner", "_law_pattern", "_law_tap_list", "_law_low", "_law_high", "_law_below_row", "_law_above", "_law_handed", "_law_found", "_law_room_here", "_law_row", "_law_due", "_law_k", "_law_tap_here"]) (sc := defScope s_law) (by decide +kernel)) (fun _ _ _ _ _ => by exact (pg_name (i := 18) sc_law.nd rfl (.inl rfl))) (fun _ _ _ _ _ => by exact pts_nil) (fun _ _ _ _ _ => by exact (pe_ix ix_list (pe_lst (pa_cons (pv 8) (pa_cons (pv 9) pa_nil))) (pe_callTy call_int1 (by rfl) z.int (by decide +kernel) (pa_cons (pe_cmpR op_lt (pv 18) pe_int (nomark _)) pa_nil)) (fun _ _ => rfl))))))
      (C8.pss_cut (ps_set (i := 11) sc_law.nd rfl (.inl rfl) (pe_revL (pe_lc (own := [("_law_tap_here", 18)]) (g := gName 18) (tt := tYes) (te := (tOp (rIxL K) (tLst (tCons (tVar 8) (tCons (tVar 9) tNil))) (tCB (fun xs H Q => (∃ i, xs = [V.int i] ∧ Q (.int i) H) ∨ ∃ k, xs = [V.bl k] ∧ Q (.int (if k then 1 else 0)) H) (tCons (tOp (rI0 fun i j => V.bl (decide (i > j))) (tVar 18) (tC (.int 0))) tNil)))) (by rfl) sc_law.nd (pi_list (pv 7)) (blkOk_by (own := [("_law_tap_here", 18)]) (N := ["_law_script", "_law_well_here", "_law_sign_kind", "_law_many", "_law_width", "_law_manner", "_law_pattern", "_law_tap_list", "_law_low", "_law_high", "_law_below_row", "_law_above", "_law_handed", "_law_found", "_law_room_here", "_law_row", "_law_due", "_law_k", "_law_tap_here"]) (sc := defScope s_law) (by decide +kernel)) (fun _ _ _ _ _ => by exact (pg_name (i := 18) sc_law.nd rfl (.inl rfl))) (fun _ _ _ _ _ => by exact pts_nil) (fun _ _ _ _ _ => by exact (pe_ix ix_list (pe_lst (pa_cons (pv 8) (pa_cons (pv 9) pa_nil))) (pe_callTy call_int1 (by rfl) z.int (by decide +kernel) (pa_cons (pe_cmpR op_gt (pv 18) pe_int (nomark _)) pa_nil)) (fun _ _ => rfl))))))
      (pss_cons (ps_set (i := 12) sc_law.nd rfl (.inl rfl) (pe_callTy call_list_of (by rfl) z.list (by decide +kernel) (pa_cons (pv 7) pa_nil)))
      (C8.pss_cut (ps_set (i := 13) sc_law.nd rfl (.inl rfl) (pe_cal c_guard hr (pa_cons (pv 12) (pa_cons (pv 6) pa_nil))))
      (pss_cons (ps_if (PW.pt (pw_or (pt_not (pt_val (pe_callB call_isi (by rfl) z.isinstance (by decide +kernel) (pa_cons (pv 13) (pa_cons (pe_bltn (v := .ty "tuple") (by rfl) z.tuple (by decide +kernel) rfl) pa_nil))))) (pw_or (pt_cmpR op_ne (pe_callB call_len_seq (by rfl) z.len PySem.boot_len (pa_cons (pv 13) pa_nil)) pe_int (nomark _)) (pw_or (pt_not (pt_val (pe_cal c__law_same hr (pa_cons (pe_ix ix_tup (pv 13) pe_int (fun _ _ => rfl)) (pa_cons (pe_op op_add (pe_ix ix_tup (pv 13) pe_int (fun _ _ => rfl)) pe_int) pa_nil))))) (pw_or1 (pt_cmpR (op_neD hr.units) (pv 12) (pv 7) (nomark _))))))) (pss_one (ps_ret pe_bl)) pss_nil)
      (pss_cons (ps_asg (pv 13) (pg_tup (by rfl) (pgs_cons (pg_name (i := 14) sc_law.nd rfl (.inl rfl)) (pgs_cons (pg_name (i := 15) sc_law.nd rfl (.inl rfl)) pgs_nil))))
      (pss_cons (ps_if (PW.pt (pw_or (pt_cmpR op_lt (pv 14) pe_int (nomark _)) (pw_or (pt_not (pt_val (pe_cal c__law_room hr (pa_cons (pv 14) (pa_cons (pe_cal c__law_sum hr (pa_cons (pv 7) (pa_cons (pv 10) pa_nil))) pa_nil))))) (pw_or1 (pt_not (pt_val (pe_cal c__law_room hr (pa_cons (pv 14) (pa_cons (pe_cal c__law_sum hr (pa_cons (pv 7) (pa_cons (pv 11) pa_nil))) pa_nil))))))))) (pss_one (ps_ret pe_bl)) pss_nil)
      (pss_cons (ps_if (pt_cmpR op_eq (pv 14) pe_int (nomark _)) (pss_one (ps_ret (pe_and (pe_cmpR op_isN (pv 15) pe_non (nomark _)) (pe_one (pe_cal c__law_same hr (pa_cons (pe_calk0 c_guard_0_form_taps hr (pk_cons (pv 6) (pk_cons (pv 7) pk_nil))) (pa_cons (pe_tup (pa_cons pe_int (pa_cons pe_non pa_nil))) pa_nil))))))) pss_nil)
      (pss_cons (ps_set (i := 16) sc_law.nd rfl (.inl rfl) (pv 10))
      (C8.pss_cut (ps_if (pt_not (pt_val (pe_cal c__law_room hr (pa_cons (pe_op op_sub (pv 14) pe_int) (pa_cons (pe_cal c__law_sum hr (pa_cons (pv 7) (pa_cons (pv 11) pa_nil))) pa_nil))))) (pss_one (ps_set (i := 16) sc_law.nd rfl (.inl rfl) (pv 11))) pss_nil)
      (pss_cons (ps_if (PW.pt (pw_or (pt_not (pt_val (pe_cal c__law_same hr (pa_cons (pv 15) (pa_cons (pv 16) pa_nil))))) (pw_or1 (pt_val (pe_cal c__law_room hr (pa_cons (pe_op op_sub (pv 14) pe_int) (pa_cons (pe_cal c__law_sum hr (pa_cons (pv 7) (pa_cons (pv 15) pa_nil))) pa_nil))))))) (pss_one (ps_ret pe_bl)) pss_nil)
      (pss_cons (ps_expr (pe_bm PySem.F.plainAttrs_list PySem.F.slot_list_append PySem.F.type_list_append mt_append (pv 15) (pa_cons pe_int pa_nil)))
      (pss_one (ps_ret (pe_cal c__law_same hr (pa_cons (pe_calk0 c_guard_0_form_taps hr (pk_cons (pv 6) (pk_cons (pv 7) pk_nil))) (pa_cons (pe_tup (pa_cons (pv 14) (pa_cons (pv 16) pa_nil))) pa_nil)))))))))))))))))))))))))), ?_⟩
    refine ⟨_, rfl, a, ns, 0, rfl, hS, _, rfl, fun w1 hw1 H1 s1 w1' => ?_⟩
    refine ⟨_, rfl, w1, 0, 3, rfl, w1', by omega, by decide, by decide, fun r2 H2 r20 r21 d2 e2 w2 => ?_⟩
    refine ⟨_, rfl, w1, _, 4, rfl, w2, by omega, by decide, by decide, fun r3 H3 r30 r31 d3 e3 w3 => ⟨_, _, rfl, rfl, ?_⟩⟩
    refine ⟨_, rfl, w1, _, 40, rfl, w3, by omega, by decide, by decide, fun r4 H4 r40 r41 d4 e4 w4 => ⟨_, _, rfl, rfl, (by show 2 ≤ sizeLine; decide), fun l3 hl3 => ?_⟩⟩
    refine ⟨_, rfl, w1, _, 2, rfl, (w4.same (same_new hl3)), by omega, by decide, by decide, fun r5 H5 r50 r51 d5 e5 w5 => ?_⟩
    obtain ⟨v3, hv3, lo3, hi3⟩ := pickR (lo := 1) (hi := 40) r50 r51 (x := 1 + r3) (y := 1 + r4) (by omega) (by omega)
    refine ⟨l3, _, _, _, rfl, rfl, SqL.of (d5 _ _ (w4.ne hl3) upd_same), hv3, ?_⟩
    have B5 : SameBut w1 H2 H5 := d3.trans (d4.trans ((SameBut.of (same_new hl3)).trans d5))
    refine ⟨_, rfl, w1, _, 63, rfl, w5, by omega, by decide, by decide, fun r6 H6 r60 r61 d6 e6 w6 => ⟨_, _, rfl, rfl, ?_⟩⟩
    refine ⟨_, rfl, w1, _, 3, rfl, w6, by omega, by decide, by decide, fun r7 H7 r70 r71 d7 e7 w7 => ⟨_, _, rfl, rfl, (by show 2 ≤ sizeLine; decide), fun l6 hl6 => ?_⟩⟩
    refine ⟨_, rfl, w1, _, 2, rfl, (w7.same (same_new hl6)), by omega, by decide, by decide, fun r8 H8 r80 r81 d8 e8 w8 => ?_⟩
    obtain ⟨v6, hv6, lo6, hi6⟩ := pickR (lo := 2) (hi := 64) r80 r81 (x := 2 + r6) (y := 2 + r7) (by omega) (by omega)
    refine ⟨l6, _, _, _, rfl, rfl, SqL.of (d8 _ _ (w7.ne hl6) upd_same), hv6, ?_⟩
    have B8 : SameBut w1 H5 H8 := d6.trans (d7.trans ((SameBut.of (same_new hl6)).trans d8))
    obtain ⟨m, rfl⟩ : ∃ m : Nat, v3 = (m : Int) := ⟨v3.toNat, by omega⟩
    obtain ⟨x, hx⟩ : ∃ x : Int, x = v6 := ⟨_, rfl⟩
    subst hx
    refine ⟨(by show 7 ≤ sizeLine; decide), fun l9 hl9 => ?_⟩
    refine ⟨_, rfl, w1, _, 7, rfl, (w8.same (same_new hl9)), by omega, by decide, by decide, fun r9 H9 r90 r91 d9 e9 w9 => ?_⟩
    obtain ⟨mn, hmn⟩ := pick7 r90 r91
    refine ⟨l9, _, _, _, rfl, rfl, SqL.of (d9 _ _ (w8.ne hl9) upd_same), hmn, ?_⟩
    refine ⟨fun σ H' => ∃ (p : Addr) (pt : Int) (st : Bool), σ = [some (.ref a), some (.ref w1), some (.int r2), some (.int (m : Nat)), some (.int x), some (.str mn.str), some (.ref p), none, none, none, none, none, none, none, none, none, none, none, none] ∧ FormAt C H' p (some x) pt mn st ∧ Same H H', ?_, fun σ H6 hM => ?_⟩
    · refine ⟨_, rfl, _, rfl, w1, _, 129, rfl, w9, by omega, by decide, by decide, fun r10 H10 r100 r101 d10 e10 w10 => ⟨_, _, rfl, rfl, ?_⟩⟩
      refine ⟨_, rfl, (by show 2 ≤ sizeLine; decide), fun l11 hl11 => ?_⟩
      refine ⟨_, rfl, w1, _, 2, rfl, (w10.same (same_new hl11)), by omega, by decide, by decide, fun r11 H11 r110 r111 d11 e11 w11 => ?_⟩
      obtain ⟨st, hst⟩ := pick2 r110 r111
      refine ⟨l11, _, _, _, rfl, rfl, SqL.of (d11 _ _ (w10.ne hl11) upd_same), hst, ?_⟩
      have S5 : Same H H11 := same_but s1 (d2.trans (B5.trans (B8.trans (((SameBut.of (same_new hl9)).trans d9).trans (d10.trans ((SameBut.of (same_new hl11)).trans d11)))))) hw1
      have hwo : WOk (some x) := fun y e => by cases e; omega
      refine fun p dx nx ndx ne => ⟨p, dx, some x, r10 - 64, mn, st, rfl, hwo, by omega, by omega, upd_same, fun H6 fa kp _ => ⟨rfl, ?_⟩⟩
      exact ⟨p, _, st, rfl, fa, S5.trans fun b o e => kp b o (ne_of_none e nx) (by rw [upd_ne (ne_of_none e nx), upd_ne (ne_of_none e ndx)]; exact e)⟩
    have hx2 : 2 ≤ x ∧ x ≤ 64 := by omega
    have hk3 : 0 ≤ r2 ∧ r2 < 3 := by omega
    have hm40 : m ≤ 40 ∧ 1 ≤ m := by omega
    clear B5 B8 d2 d3 d4 d5 d6 d7 d8 d9 e2 e3 e4 e5 e6 e7 e8 e9 w2 w3 w4 w5 w6 w7 w8 w9 w1'
    obtain ⟨p, pt, st, rfl, fa, S6⟩ := hM
    have hS6 := S6.seq hS
    refine ⟨_, rfl, _, rfl, by omega, by omega, fun L hL => lc_range (lo := 0) (n := m) (fun i H' => Same H6 H' ∧ ∃ ts : List Int, ts.length = i ∧ (∀ t ∈ ts, t.natAbs < 1000000000000000000) ∧ H' L = some (.lst (ts.map V.int))) ⟨same_new hL, [], rfl, (fun t ht => absurd ht List.not_mem_nil), upd_same⟩ (fun i H' hi' hP => ?_) (fun G0 hP => ?_)⟩
    · obtain ⟨sH, ts, hlen, hts, hLt⟩ := hP
      refine ⟨rfl, _, rfl, _, rfl, _, _, rfl, rfl, a, ns, 1 + i, refInt (by omega), sH.seq hS6, _, rfl, _, _, rfl, rfl, _, rfl, fun p7 hp7 H7 s7 k7 => ?_⟩
      refine ⟨_, rfl, p7, 0, r2, rfl, k7, by decide, hk3.1, hk3.2, fun t H8 tb D8 => ?_⟩
      have S8 : Same H' H8 := same_but s7 D8 hp7
      refine ⟨_, S8 _ _ hLt, ?_, fun b o e => ?_, ts ++ [t], ?_, fun y hy => ?_, ?_⟩
      · rw [List.length_map]
        exact small1000 (by omega)
      · rw [upd_ne (ne_of_none e hL)]
        exact S8 _ _ (sH _ _ e)
      · rw [List.length_append, hlen]
        rfl
      · rcases List.mem_append.mp hy with hy | hy
        · exact hts y hy
        · rw [List.mem_singleton.mp hy]
          exact tb
      · rw [upd_same, List.map_append]
        rfl
    obtain ⟨s0, ts, hlen, hts0, hL0⟩ := hP
    have hts : Small ts := ⟨by omega, hts0⟩
    have fa0 := fa.same s0
    clear hL hts0 hS6 S6 fa
    have eL : (0 : Int) - 1 * 2 ^ (x - 1).toNat = lst x := by
      unfold lst two
      omega
    have eG : (1 : Int) * 2 ^ (x - 1).toNat - 1 = grt x := by
      unfold grt two
      omega
    refine ⟨_, rfl, _, _, rfl, rfl, _, _, rfl, rfl, ⟨by omega, by omega, by decide⟩, _, _, rfl, rfl, ?_⟩
    dsimp only
    rw [eL]
    refine ⟨_, rfl, _, _, rfl, rfl, _, _, rfl, rfl, ⟨by omega, by omega, by decide⟩, _, _, rfl, rfl, ?_⟩
    dsimp only
    rw [eG]
    refine ⟨_, rfl, L, rfl, ⟨_, SqL.of hL0⟩, fun D1 hD1 => lc_list (K := K) (a := L) (xs := ts.map V.int) (fun i H' => Same G0 H' ∧ H' D1 = some (.lst ((pick (lst x) (grt x) (fun t => decide (t < 0)) (ts.take i)).map V.int))) ⟨same_new hD1, upd_same⟩ (fun i H' _ hP => SqL.of (hP.1 _ _ hL0)) (fun i x H' hx hP => ?_) (fun Gv1 hP1 => ?_)⟩
    · obtain ⟨s1, hacc⟩ := hP
      rw [List.getElem?_map] at hx
      obtain ⟨n, hi', rfl⟩ := Option.map_eq_some_iff.mp hx
      have hlt := (List.getElem?_eq_some_iff.mp hi').1
      refine ⟨rfl, _, rfl, _, rfl, (by show 2 ≤ sizeLine; decide), fun q1 hq1 => ⟨_, rfl, _, _, rfl, rfl, .inr ⟨_, rfl, q1, _, _, _, rfl, rfl, SqL.of upd_same, pick_at, ?_⟩⟩⟩
      have sq := same_new (o := .lst [.int (lst x), .int (grt x)]) hq1
      refine ⟨_, sq _ _ hacc, ?_, fun b o e => ?_, ?_⟩
      · rw [List.length_map, pick_len, List.length_take]
        exact small1000 (by omega)
      · rw [upd_ne (ne_of_none e hD1)]
        exact sq _ _ (s1 _ _ e)
      · rw [upd_same, pick_snoc (lst x) (grt x) _ ts i n hi', List.map_append]
        rfl
    obtain ⟨sv1, hb1⟩ := hP1
    rw [List.length_map, List.take_length] at hb1
    refine ⟨D1, _, rfl, SqL.of hb1, fun R1 hR1 => ?_⟩
    have u1 : Same G0 (upd Gv1 R1 (.lst ((pick (lst x) (grt x) (fun t => decide (t < 0)) ts).map V.int).reverse)) := sv1.trans (same_new hR1)
    have r1 : (upd Gv1 R1 (.lst ((pick (lst x) (grt x) (fun t => decide (t < 0)) ts).map V.int).reverse)) R1 = some (.lst ((pick (lst x) (grt x) (fun t => decide (t < 0)) ts).reverse.map V.int)) := by rw [upd_same, List.map_reverse]
    generalize upd Gv1 R1 (.lst ((pick (lst x) (grt x) (fun t => decide (t < 0)) ts).map V.int).reverse) = J1 at u1 r1 ⊢
    refine ⟨fun σ H' => ∃ R2 : Addr, σ = [some (.ref a), some (.ref w1), some (.int r2), some (.int (m : Nat)), some (.int x), some (.str mn.str), some (.ref p), some (.ref L), some (.int (lst x)), some (.int (grt x)), some (.ref R1), some (.ref R2), none, none, none, none, none, none, none] ∧ Same J1 H' ∧ H' R2 = some (.lst ((upR (lst x) (grt x) ts).reverse.map V.int)), ?_, fun σ J2 hM => ?_⟩
    · have _h := hlen
      refine ⟨_, rfl, L, rfl, ⟨_, SqL.of (u1 _ _ hL0)⟩, fun D2 hD2 => lc_list (K := K) (a := L) (xs := ts.map V.int) (fun i H' => Same J1 H' ∧ H' D2 = some (.lst ((pick (lst x) (grt x) (fun t => decide (t > 0)) (ts.take i)).map V.int))) ⟨same_new hD2, upd_same⟩ (fun i H' _ hP => SqL.of (hP.1 _ _ (u1 _ _ hL0))) (fun i x H' hx hP => ?_) (fun Gv2 hP2 => ?_)⟩
      · obtain ⟨s1, hacc⟩ := hP
        rw [List.getElem?_map] at hx
        obtain ⟨n, hi', rfl⟩ := Option.map_eq_some_iff.mp hx
        have hlt := (List.getElem?_eq_some_iff.mp hi').1
        refine ⟨rfl, _, rfl, _, rfl, (by show 2 ≤ sizeLine; decide), fun q1 hq1 => ⟨_, rfl, _, _, rfl, rfl, .inr ⟨_, rfl, q1, _, _, _, rfl, rfl, SqL.of upd_same, pick_at, ?_⟩⟩⟩
        have sq := same_new (o := .lst [.int (lst x), .int (grt x)]) hq1
        refine ⟨_, sq _ _ hacc, ?_, fun b o e => ?_, ?_⟩
        · rw [List.length_map, pick_len, List.length_take]
          exact small1000 (by omega)
        · rw [upd_ne (ne_of_none e hD2)]
          exact sq _ _ (s1 _ _ e)
        · rw [upd_same, pick_snoc (lst x) (grt x) _ ts i n hi', List.map_append]
          rfl
      obtain ⟨sv2, hb2⟩ := hP2
      rw [List.length_map, List.take_length] at hb2
      refine ⟨D2, _, rfl, SqL.of hb2, fun R2 hR2 => ?_⟩
      have u2 : Same J1 (upd Gv2 R2 (.lst ((pick (lst x) (grt x) (fun t => decide (t > 0)) ts).map V.int).reverse)) := sv2.trans (same_new hR2)
      have r2' : (upd Gv2 R2 (.lst ((pick (lst x) (grt x) (fun t => decide (t > 0)) ts).map V.int).reverse)) R2 = some (.lst ((pick (lst x) (grt x) (fun t => decide (t > 0)) ts).reverse.map V.int)) := by rw [upd_same, List.map_reverse]
      generalize upd Gv2 R2 (.lst ((pick (lst x) (grt x) (fun t => decide (t > 0)) ts).map V.int).reverse) = J2 at u2 r2' ⊢
      exact ⟨R2, rfl, u2, r2'⟩
    obtain ⟨R2, rfl, u2, r2'⟩ := hM
    have hL3 := u2 _ _ (u1 _ _ hL0)
    have r1' := u2 _ _ r1
    have fa3 := fa0.same (u1.trans u2)
    clear u1 r1 u2 s0 fa0 hL0
    obtain ⟨g2, g300, gR1, gR2⟩ := gw_facts x ts hx2.1 hx2.2 hts
    have gwl := gw_less x ts
    refine ⟨_, rfl, L, _, rfl, .inl (SqL.of hL3), fun Hd hHd => ?_⟩
    have sHd := same_new (o := .lst (ts.map V.int)) hHd
    refine ⟨fun σ G => ∃ (t : Addr) (v : V), σ = [some (.ref a), some (.ref w1), some (.int r2), some (.int (m : Nat)), some (.int x), some (.str mn.str), some (.ref p), some (.ref L), some (.int (lst x)), some (.int (grt x)), some (.ref R1), some (.ref R2), some (.ref Hd), some (.ref t), none, none, none, none, none] ∧ Same J2 G ∧ G Hd = some (.lst (ts.map V.int)) ∧ G t = some (.tup [.int (gW x ts), v]) ∧ ((gW x ts = 2 ∧ v = .non) ∨ (gW x ts ≠ 2 ∧ ∃ b, v = .ref b ∧ J2 b = none ∧ G b = some (.lst ((rowB x ts).reverse.map V.int)))), ?_, fun σ G hM => ?_⟩
    · refine ⟨_, rfl, _, rfl, Hd, p, ts, x, _, mn, st, rfl, upd_same, hts, by omega, fa3.same sHd, fun e2 t G nt s ht => ?_, fun e2 t b G nt nb nbt s ht hb => ?_⟩
      · exact ⟨t, _, rfl, sHd.trans s, s _ _ upd_same, ht, .inl ⟨e2, rfl⟩⟩
      · exact ⟨t, _, rfl, sHd.trans s, s _ _ upd_same, ht, .inr ⟨e2, b, rfl, sHd.free nb, hb⟩⟩
    clear sHd hHd
    obtain ⟨t, v, rfl, s, hHd, ht, hv⟩ := hM
    have hL4 := s _ _ hL3
    have R14 := s _ _ r1'
    have R24 := s _ _ r2'
    have fa4 := fa3.same s
    generalize hgw : gW x ts = wd at *
    refine ⟨_, rfl, _, .ty "tuple", _, _, true, rfl, .ty _, .base (.tup ht), kit_ty (by decide +kernel), _, rfl, iteF ⟨_, rfl, t, _, rfl, .inr (SqT.of ht), rfl, _, rfl, iteNS rfl ?_⟩⟩
    refine ⟨_, rfl, t, _, 0, _, rfl, rfl, SqT.of ht, a0, _, rfl, t, _, 0, _, rfl, rfl, SqT.of ht, a0, _, _, rfl, rfl, _, _, rfl, .inl ⟨congrArg V.int (Int.add_zero _).symm, .int _⟩, fun Ga sa => ⟨_, rfl, iteF ?_⟩⟩
    refine ⟨_, rfl, _, rfl, .list (ts.map PyData.int), .list (ts.map PyData.int), .lst (SqL.of (sa _ _ hHd)) (dp_ints _), .lst (SqL.of (sa _ _ hL4)) (dp_ints _), PySem.W.shaped_ints _, PySem.W.shaped_ints _, _, rfl, ?_⟩
    rw [eqv_ints]
    refine iteF ?_
    refine ⟨_, rfl, t, _, rfl, SqT.of (sa _ _ ht), rfl, _, _, rfl, _, _, rfl, rfl, ?_⟩
    have hL5 := sa _ _ hL4
    have R15 := sa _ _ R14
    have R25 := sa _ _ R24
    refine ⟨_, rfl, _, _, rfl, rfl, _, rfl, ite2 (fun c => absurd (toB c) (by omega)) (fun _ => ?_)⟩
    refine ⟨_, rfl, _, rfl, _, rfl, L, R1, ts, _, rfl, hL5, R15, hts, (by rw [List.length_reverse, pick_len]), fun M1 m1 => ?_⟩
    rw [List.reverse_reverse]
    refine ⟨wd, _, rfl, by omega, by omega, _, rfl, iteC (congrArg (! ·) gR1) (iteF ?_)⟩
    refine ⟨_, rfl, _, rfl, _, rfl, L, R2, ts, _, rfl, m1 _ _ hL5, m1 _ _ R25, hts, (by rw [List.length_reverse, pick_len]), fun M2 m2 => ?_⟩
    rw [List.reverse_reverse]
    refine ⟨wd, _, rfl, by omega, by omega, _, rfl, iteC (congrArg (! ·) gR2) (iteF ?_)⟩
    have Z2 := sa.trans (m1.trans m2)
    rcases hv with ⟨e2, rfl⟩ | ⟨e2, b, rfl, nb, hb⟩
    · refine ⟨_, rfl, rfl, _, rfl, iteC (decide_eq_true (congrArg V.int e2)) (iteT ?_)⟩
      refine ⟨_, rfl, rfl, _, rfl, ?_⟩
      rw [decide_eq_true rfl]
      refine iteT ⟨_, rfl, _, rfl, rfl, rfl, L, p, ts, x, _, mn, st, rfl, Z2 _ _ hL4, hts, by omega, fa4.same Z2, fun e3 t3 G3 nt3 s3 ht3 => ?_, fun e3 => absurd (hgw.trans e2) e3⟩
      refine ⟨(by show 2 ≤ sizeLine; decide), fun t4 ht4 => ?_⟩
      have s4 := same_new (o := .tup [.int 2, .non]) ht4
      refine ⟨_, _, rfl, al2 _ (s4 _ _ (by rw [e3] at ht3; exact ht3)) upd_same (.inl ⟨rfl, .non⟩), fun G5 _ => q _⟩
    · obtain ⟨gL, gN⟩ := gwl e2 g2
      refine ⟨_, rfl, rfl, _, rfl, iteC (decide_eq_false (fun e => e2 (V.int.inj e))) (iteF ?_)⟩
      have nbL : L ≠ b := ne_of_none hL3 nb
      have nbR1 : R1 ≠ b := ne_of_none r1' nb
      have nbR2 : R2 ≠ b := ne_of_none r2' nb
      refine ⟨_, rfl, ?_⟩
      refine ⟨fun σ G' => ∃ Rd : Addr, σ = [some (.ref a), some (.ref w1), some (.int r2), some (.int (m : Nat)), some (.int x), some (.str mn.str), some (.ref p), some (.ref L), some (.int (lst x)), some (.int (grt x)), some (.ref R1), some (.ref R2), some (.ref Hd), some (.ref t), some (.int wd), some (.ref b), some (.ref Rd), none, none] ∧ Same M2 G' ∧ Rd ≠ b ∧ G' Rd = some (.lst ((rowB x ts).reverse.map V.int)), ?_, fun σ G' hM => ?_⟩
      · refine ⟨_, rfl, _, _, rfl, rfl, _, rfl, _, rfl, L, R2, ts, _, rfl, Z2 _ _ hL4, Z2 _ _ R24, hts, (by rw [List.length_reverse, pick_len]), fun M3 m3 => ?_⟩
        rw [List.reverse_reverse]
        refine ⟨wd - 1, _, rfl, by omega, by omega, _, rfl, iteC (congrArg (! ·) gL) ?_⟩
        by_cases c : widI (sUp x ts) = wd
        · rw [decide_eq_false (fun z => z c)]
          refine iteT ⟨_, rfl, R2, rfl, m3, nbR2, ?_⟩
          rw [m3 _ _ (Z2 _ _ R24)]
          unfold rowB
          rw [if_pos (c.trans hgw.symm)]
        · rw [decide_eq_true c]
          refine iteF ⟨R1, rfl, m3, nbR1, ?_⟩
          rw [m3 _ _ (Z2 _ _ R14)]
          unfold rowB
          rw [if_neg (fun e => c (e.trans hgw))]
      obtain ⟨Rd, rfl, m3, nRd, hRd⟩ := hM
      have Z3 := Z2.trans m3
      have hb3 := Z3 _ _ hb
      have lb := rowB_len x ts
      refine ⟨_, rfl, _, rfl, _, _, rfl, Al.ints (by rw [List.length_reverse]; omega) hb3 hRd, fun M4 m4 => ⟨_, rfl, iteF ?_⟩⟩
      have Z4 := Z3.trans m4
      refine ⟨_, rfl, _, _, rfl, rfl, _, rfl, _, rfl, L, b, ts, _, rfl, Z4 _ _ hL4, m4 _ _ hb3, hts, (by rw [List.length_reverse]; omega), fun M5 m5 => ?_⟩
      rw [List.reverse_reverse]
      refine ⟨wd - 1, _, rfl, by omega, by omega, _, rfl, iteC gN (iteF ?_)⟩
      have Z5 := Z4.trans m5
      have hb5 := Z5 _ _ hb
      refine ⟨_, rfl, .inl ⟨rfl, _, SqL.of hb5⟩, b, _, _, rfl, rfl, hb5, small1000 (by rw [List.length_map, List.length_reverse]; omega), ?_⟩
      have cl : ∀ y o, y ≠ b → M5 y = some o → (upd M5 b (.lst ((rowB x ts).reverse.map V.int ++ [.int 0]))) y = some o := fun y o ny hy => by rw [upd_ne ny]; exact hy
      have hL6 := cl _ _ nbL (Z5 _ _ hL4)
      have hR6 := cl _ _ nRd ((m4.trans m5) _ _ hRd)
      have fa6 : FormAt C (upd M5 b (.lst ((rowB x ts).reverse.map V.int ++ [.int 0]))) p (some x) pt mn st := by
        obtain ⟨⟨dx, ho⟩, f2, f3, f4⟩ := fa4.same Z5
        exact ⟨⟨dx, cl _ _ (ne_of ho hb5 (fun z => nomatch z)) ho⟩, f2, f3, f4⟩
      generalize upd M5 b (.lst ((rowB x ts).reverse.map V.int ++ [.int 0])) = M6 at hL6 hR6 fa6 ⊢
      refine ⟨_, rfl, _, rfl, rfl, rfl, L, p, ts, x, _, mn, st, rfl, hL6, hts, by omega, fa6, fun e3 => absurd (hgw.symm.trans e3) e2, fun e3 t7 b7 G7 nt7 nb7 nbt7 s7 ht7 hb7 => ?_⟩
      refine ⟨_, rfl, _, rfl, (by show 2 ≤ sizeLine; decide), fun t8 ht8 => ?_⟩
      have s8 := same_new (o := .tup [.int wd, .ref Rd]) ht8
      rw [hgw] at ht7
      exact ⟨_, _, rfl, al2 _ (s8 _ _ ht7) upd_same (Al.ints (ns := (rowB x ts).reverse) (by rw [List.length_reverse]; omega) (s8 _ _ hb7) (s8 _ _ (s7 _ _ hR6))), fun G9 _ => q _⟩
end
end E1

namespace E1
open PySem PySem.Spec PyProof.Rows L2

theorem Vals.rev : ∀ {xs : List V} {us : List Value}, Vals xs us → Vals xs.reverse us.reverse
  | _, _, .nil => .nil
  | _, _, .cons r t => by
    rw [List.reverse_cons, List.reverse_cons]
    exact Vals.append (Vals.rev t) (.cons r .nil)
section
variable {P : Program} {w : World} {K : PySem.W.Frag} {mg : Str → Option Value} {base : Heap} {x : Str} {st : Stmt} {f : Addr} {fd : FuncData} {ps ks : List Str} {k n : Nat} {sp : Sp}
/-- a def without defaults: its arguments by keywords alone or behind others -/
theorem Fun.kbn {qual : Str} (F : Fun K x qual st f fd) {g : List Value → List Value → List Value} {gV : List V → List V → List V} (hrel : ∀ {vs : List V} {us : List Value} {zs : List V} {ws : List Value}, Vals vs us → Vals zs ws → Vals (gV vs zs) (g us ws))
    (h : ∀ (kV doc pm : Value) (an : Option Addr) (cdv ct : Value) (us ws : List Value), us.length = n → ws.length = ks.length → bindArgs (PySem.W.fnOf x qual (defArgs st) (defBody st) (defScope st) .none kV doc pm an cdv ct) ⟨us, ks.zip ws⟩ = pure (ps.zip (g us ws))) : KBn K fd ps n ks g gV := by
  rcases F.ex with ⟨_, _, v1, v2, v3, v4, v5, v6, _, same, _, _⟩
  subst same
  exact ⟨fun s us ws _ l1 l2 => .of_eq (h v1 v2 v3 v4 v5 v6 us ws l1 l2), hrel⟩
/-- a def with defaults, all arguments given -/
theorem FunD.kbn {qual : Str} {params : Arguments} {body : List Stmt} {scope : Scope} {dvs : List V} {kws : List (Str × V)} (F : FunD K x qual params body scope dvs kws f fd) (hd : dvs ≠ []) {g : List Value → List Value → List Value} {gV : List V → List V → List V} (hrel : ∀ {vs : List V} {us : List Value} {zs : List V} {ws : List Value}, Vals vs us → Vals zs ws → Vals (gV vs zs) (g us ws))
    (h : ∀ (T : Addr) (kV doc pm : Value) (an : Option Addr) (cdv ct : Value) (us ws its : List Value), us.length = n → ws.length = ks.length → its.length = dvs.length → ∃ k, bindArgs (PySem.W.fnOf x qual params body scope (.ref T) kV doc pm an cdv ct) ⟨us, ks.zip ws⟩ = seqItems? (.ref T) >>= k ∧ k (some its.toArray) = pure (ps.zip (g us ws))) : KBn K fd ps n ks g gV := by
  rcases F.ex with ⟨_, _, _, v1, v2, v3, v4, v5, v6, _, same, _, _, bare | given, _⟩
  · exact absurd bare.1 hd
  · rcases given with ⟨_, T, _, its, _, dv, at_, it, rel⟩
    subst same dv
    refine ⟨fun s us ws inn l1 l2 => BindsTo.of_looks fun M => ?_, hrel⟩
    rcases h T v1 v2 v3 v4 v5 v6 us ws its l1 l2 rel.length.symm with ⟨go, b1, b2⟩
    rw [b1]
    exact looks_items inn at_ it (.of_pure b2)
end
theorem all_mk {l : PySem.W.OpenLaw} {w : World} {K : PySem.W.Frag} {h : Heap} {mg : Str → Option Value} {fa f_is_whole f_downward f_upward f_inward f_outward f_nearest_greater f_nearest_even f_nearest_far f_is_manner f_is_width f_is_point f_is_ends f_is_numbers f_dot f_check_taps f_extremes f_width_for f_guard f__law_cell_at f__law_well f__law_draw f__law_same f__law_tap f__law_sum f__law_room f_law C f_Form_least f_Form_greatest f_Form___init__ T_Form___init__ A_ENDS A_MANNERS : Addr} (X : K.In h) (G : h.Ns mainGlobals mg) (hfa : mg "law" = some (.ref fa))
    {od_is_whole an_is_whole : Option Addr} {sl_is_whole : Array (Option Value)} {oc_is_whole kV_is_whole dc_is_whole pm_is_whole cd_is_whole ct_is_whole : Value}
    (a_is_whole : PySem.W.nsIn K mainGlobals "is_whole" = some (some (.ref f_is_whole)))
    (l_is_whole : K.lookup f_is_whole = some ⟨oc_is_whole, od_is_whole, .func (PySem.W.fnOf "is_whole" "is_whole" (defArgs s_is_whole) (defBody s_is_whole) (defScope s_is_whole) .none kV_is_whole dc_is_whole pm_is_whole an_is_whole cd_is_whole ct_is_whole), sl_is_whole⟩)
    (c_is_whole : PySem.W.codeIn K cd_is_whole "is_whole" = true)
    (k_is_whole : PySem.W.keepIn K (.ref f_is_whole) = true)
    {od_downward an_downward : Option Addr} {sl_downward : Array (Option Value)} {oc_downward kV_downward dc_downward pm_downward cd_downward ct_downward : Value}
    (a_downward : PySem.W.nsIn K mainGlobals "downward" = some (some (.ref f_downward)))
    (l_downward : K.lookup f_downward = some ⟨oc_downward, od_downward, .func (PySem.W.fnOf "downward" "downward" (defArgs s_downward) (defBody s_downward) (defScope s_downward) .none kV_downward dc_downward pm_downward an_downward cd_downward ct_downward), sl_downward⟩)
    (c_downward : PySem.W.codeIn K cd_downward "downward" = true)
    (k_downward : PySem.W.keepIn K (.ref f_downward) = true)
    {od_upward an_upward : Option Addr} {sl_upward : Array (Option Value)} {oc_upward kV_upward dc_upward pm_upward cd_upward ct_upward : Value}
    (a_upward : PySem.W.nsIn K mainGlobals "upward" = some (some (.ref f_upward)))
    (l_upward : K.lookup f_upward = some ⟨oc_upward, od_upward, .func (PySem.W.fnOf "upward" "upward" (defArgs s_upward) (defBody s_upward) (defScope s_upward) .none kV_upward dc_upward pm_upward an_upward cd_upward ct_upward), sl_upward⟩)
    (c_upward : PySem.W.codeIn K cd_upward "upward" = true)
    (k_upward : PySem.W.keepIn K (.ref f_upward) = true)
    {od_inward an_inward : Option Addr} {sl_inward : Array (Option Value)} {oc_inward kV_inward dc_inward pm_inward cd_inward ct_inward : Value}
    (a_inward : PySem.W.nsIn K mainGlobals "inward" = some (some (.ref f_inward)))
    (l_inward : K.lookup f_inward = some ⟨oc_inward, od_inward, .func (PySem.W.fnOf "inward" "inward" (defArgs s_inward) (defBody s_inward) (defScope s_inward) .none kV_inward dc_inward pm_inward an_inward cd_inward ct_inward), sl_inward⟩)
    (c_inward : PySem.W.codeIn K cd_inward "inward" = true)
    (k_inward : PySem.W.keepIn K (.ref f_inward) = true)
    {od_outward an_outward : Option Addr} {sl_outward : Array (Option Value)} {oc_outward kV_outward dc_outward pm_outward cd_outward ct_outward : Value}
    (a_outward : PySem.W.nsIn K mainGlobals "outward" = some (some (.ref f_outward)))
    (l_outward : K.lookup f_outward = some ⟨oc_outward, od_outward, .func (PySem.W.fnOf "outward" "outward" (defArgs s_outward) (defBody s_outward) (defScope s_outward) .none kV_outward dc_outward pm_outward an_outward cd_outward ct_outward), sl_outward⟩)
    (c_outward : PySem.W.codeIn K cd_outward "outward" = true)
    (k_outward : PySem.W.keepIn K (.ref f_outward) = true)
    {od_nearest_greater an_nearest_greater : Option Addr} {sl_nearest_greater : Array (Option Value)} {oc_nearest_greater kV_nearest_greater dc_nearest_greater pm_nearest_greater cd_nearest_greater ct_nearest_greater : Value}
    (a_nearest_greater : PySem.W.nsIn K mainGlobals "nearest_greater" = some (some (.ref f_nearest_greater)))
    (l_nearest_greater : K.lookup f_nearest_greater = some ⟨oc_nearest_greater, od_nearest_greater, .func (PySem.W.fnOf "nearest_greater" "nearest_greater" (defArgs s_nearest_greater) (defBody s_nearest_greater) (defScope s_nearest_greater) .none kV_nearest_greater dc_nearest_greater pm_nearest_greater an_nearest_greater cd_nearest_greater ct_nearest_greater), sl_nearest_greater⟩)
    (c_nearest_greater : PySem.W.codeIn K cd_nearest_greater "nearest_greater" = true)
    (k_nearest_greater : PySem.W.keepIn K (.ref f_nearest_greater) = true)
    {od_nearest_even an_nearest_even : Option Addr} {sl_nearest_even : Array (Option Value)} {oc_nearest_even kV_nearest_even dc_nearest_even pm_nearest_even cd_nearest_even ct_nearest_even : Value}
    (a_nearest_even : PySem.W.nsIn K mainGlobals "nearest_even" = some (some (.ref f_nearest_even)))
    (l_nearest_even : K.lookup f_nearest_even = some ⟨oc_nearest_even, od_nearest_even, .func (PySem.W.fnOf "nearest_even" "nearest_even" (defArgs s_nearest_even) (defBody s_nearest_even) (defScope s_nearest_even) .none kV_nearest_even dc_nearest_even pm_nearest_even an_nearest_even cd_nearest_even ct_nearest_even), sl_nearest_even⟩)
    (c_nearest_even : PySem.W.codeIn K cd_nearest_even "nearest_even" = true)
    (k_nearest_even : PySem.W.keepIn K (.ref f_nearest_even) = true)
    {od_nearest_far an_nearest_far : Option Addr} {sl_nearest_far : Array (Option Value)} {oc_nearest_far kV_nearest_far dc_nearest_far pm_nearest_far cd_nearest_far ct_nearest_far : Value}
    (a_nearest_far : PySem.W.nsIn K mainGlobals "nearest_far" = some (some (.ref f_nearest_far)))
    (l_nearest_far : K.lookup f_nearest_far = some ⟨oc_nearest_far, od_nearest_far, .func (PySem.W.fnOf "nearest_far" "nearest_far" (defArgs s_nearest_far) (defBody s_nearest_far) (defScope s_nearest_far) .none kV_nearest_far dc_nearest_far pm_nearest_far an_nearest_far cd_nearest_far ct_nearest_far), sl_nearest_far⟩)
    (c_nearest_far : PySem.W.codeIn K cd_nearest_far "nearest_far" = true)
    (k_nearest_far : PySem.W.keepIn K (.ref f_nearest_far) = true)
    {od_is_manner an_is_manner : Option Addr} {sl_is_manner : Array (Option Value)} {oc_is_manner kV_is_manner dc_is_manner pm_is_manner cd_is_manner ct_is_manner : Value}
    (a_is_manner : PySem.W.nsIn K mainGlobals "is_manner" = some (some (.ref f_is_manner)))
    (l_is_manner : K.lookup f_is_manner = some ⟨oc_is_manner, od_is_manner, .func (PySem.W.fnOf "is_manner" "is_manner" (defArgs s_is_manner) (defBody s_is_manner) (defScope s_is_manner) .none kV_is_manner dc_is_manner pm_is_manner an_is_manner cd_is_manner ct_is_manner), sl_is_manner⟩)
    (c_is_manner : PySem.W.codeIn K cd_is_manner "is_manner" = true)
    (k_is_manner : PySem.W.keepIn K (.ref f_is_manner) = true)
    {od_is_width an_is_width : Option Addr} {sl_is_width : Array (Option Value)} {oc_is_width kV_is_width dc_is_width pm_is_width cd_is_width ct_is_width : Value}
    (a_is_width : PySem.W.nsIn K mainGlobals "is_width" = some (some (.ref f_is_width)))
    (l_is_width : K.lookup f_is_width = some ⟨oc_is_width, od_is_width, .func (PySem.W.fnOf "is_width" "is_width" (defArgs s_is_width) (defBody s_is_width) (defScope s_is_width) .none kV_is_width dc_is_width pm_is_width an_is_width cd_is_width ct_is_width), sl_is_width⟩)
    (c_is_width : PySem.W.codeIn K cd_is_width "is_width" = true)
    (k_is_width : PySem.W.keepIn K (.ref f_is_width) = true)
    {od_is_point an_is_point : Option Addr} {sl_is_point : Array (Option Value)} {oc_is_point kV_is_point dc_is_point pm_is_point cd_is_point ct_is_point : Value}
    (a_is_point : PySem.W.nsIn K mainGlobals "is_point" = some (some (.ref f_is_point)))
    (l_is_point : K.lookup f_is_point = some ⟨oc_is_point, od_is_point, .func (PySem.W.fnOf "is_point" "is_point" (defArgs s_is_point) (defBody s_is_point) (defScope s_is_point) .none kV_is_point dc_is_point pm_is_point an_is_point cd_is_point ct_is_point), sl_is_point⟩)
    (c_is_point : PySem.W.codeIn K cd_is_point "is_point" = true)
    (k_is_point : PySem.W.keepIn K (.ref f_is_point) = true)
    {od_is_ends an_is_ends : Option Addr} {sl_is_ends : Array (Option Value)} {oc_is_ends kV_is_ends dc_is_ends pm_is_ends cd_is_ends ct_is_ends : Value}
    (a_is_ends : PySem.W.nsIn K mainGlobals "is_ends" = some (some (.ref f_is_ends)))
    (l_is_ends : K.lookup f_is_ends = some ⟨oc_is_ends, od_is_ends, .func (PySem.W.fnOf "is_ends" "is_ends" (defArgs s_is_ends) (defBody s_is_ends) (defScope s_is_ends) .none kV_is_ends dc_is_ends pm_is_ends an_is_ends cd_is_ends ct_is_ends), sl_is_ends⟩)
    (c_is_ends : PySem.W.codeIn K cd_is_ends "is_ends" = true)
    (k_is_ends : PySem.W.keepIn K (.ref f_is_ends) = true)
    {od_is_numbers an_is_numbers : Option Addr} {sl_is_numbers : Array (Option Value)} {oc_is_numbers kV_is_numbers dc_is_numbers pm_is_numbers cd_is_numbers ct_is_numbers : Value}
    (a_is_numbers : PySem.W.nsIn K mainGlobals "is_numbers" = some (some (.ref f_is_numbers)))
    (l_is_numbers : K.lookup f_is_numbers = some ⟨oc_is_numbers, od_is_numbers, .func (PySem.W.fnOf "is_numbers" "is_numbers" (defArgs s_is_numbers) (defBody s_is_numbers) (defScope s_is_numbers) .none kV_is_numbers dc_is_numbers pm_is_numbers an_is_numbers cd_is_numbers ct_is_numbers), sl_is_numbers⟩)
    (c_is_numbers : PySem.W.codeIn K cd_is_numbers "is_numbers" = true)
    (k_is_numbers : PySem.W.keepIn K (.ref f_is_numbers) = true)
    {od_dot an_dot : Option Addr} {sl_dot : Array (Option Value)} {oc_dot kV_dot dc_dot pm_dot cd_dot ct_dot : Value}
    (a_dot : PySem.W.nsIn K mainGlobals "dot" = some (some (.ref f_dot)))
    (l_dot : K.lookup f_dot = some ⟨oc_dot, od_dot, .func (PySem.W.fnOf "dot" "dot" (defArgs s_dot) (defBody s_dot) (defScope s_dot) .none kV_dot dc_dot pm_dot an_dot cd_dot ct_dot), sl_dot⟩)
    (c_dot : PySem.W.codeIn K cd_dot "dot" = true)
    (k_dot : PySem.W.keepIn K (.ref f_dot) = true)
    {od_check_taps an_check_taps : Option Addr} {sl_check_taps : Array (Option Value)} {oc_check_taps kV_check_taps dc_check_taps pm_check_taps cd_check_taps ct_check_taps : Value}
    (a_check_taps : PySem.W.nsIn K mainGlobals "check_taps" = some (some (.ref f_check_taps)))
    (l_check_taps : K.lookup f_check_taps = some ⟨oc_check_taps, od_check_taps, .func (PySem.W.fnOf "check_taps" "check_taps" (defArgs s_check_taps) (defBody s_check_taps) (defScope s_check_taps) .none kV_check_taps dc_check_taps pm_check_taps an_check_taps cd_check_taps ct_check_taps), sl_check_taps⟩)
    (c_check_taps : PySem.W.codeIn K cd_check_taps "check_taps" = true)
    (k_check_taps : PySem.W.keepIn K (.ref f_check_taps) = true)
    {od_extremes an_extremes : Option Addr} {sl_extremes : Array (Option Value)} {oc_extremes kV_extremes dc_extremes pm_extremes cd_extremes ct_extremes : Value}
    (a_extremes : PySem.W.nsIn K mainGlobals "extremes" = some (some (.ref f_extremes)))
    (l_extremes : K.lookup f_extremes = some ⟨oc_extremes, od_extremes, .func (PySem.W.fnOf "extremes" "extremes" (defArgs s_extremes) (defBody s_extremes) (defScope s_extremes) .none kV_extremes dc_extremes pm_extremes an_extremes cd_extremes ct_extremes), sl_extremes⟩)
    (c_extremes : PySem.W.codeIn K cd_extremes "extremes" = true)
    (k_extremes : PySem.W.keepIn K (.ref f_extremes) = true)
    {od_width_for an_width_for : Option Addr} {sl_width_for : Array (Option Value)} {oc_width_for kV_width_for dc_width_for pm_width_for cd_width_for ct_width_for : Value}
    (a_width_for : PySem.W.nsIn K mainGlobals "width_for" = some (some (.ref f_width_for)))
    (l_width_for : K.lookup f_width_for = some ⟨oc_width_for, od_width_for, .func (PySem.W.fnOf "width_for" "width_for" (defArgs s_width_for) (defBody s_width_for) (defScope s_width_for) .none kV_width_for dc_width_for pm_width_for an_width_for cd_width_for ct_width_for), sl_width_for⟩)
    (c_width_for : PySem.W.codeIn K cd_width_for "width_for" = true)
    (k_width_for : PySem.W.keepIn K (.ref f_width_for) = true)
    {od_guard an_guard : Option Addr} {sl_guard : Array (Option Value)} {oc_guard kV_guard dc_guard pm_guard cd_guard ct_guard : Value}
    (a_guard : PySem.W.nsIn K mainGlobals "guard" = some (some (.ref f_guard)))
    (l_guard : K.lookup f_guard = some ⟨oc_guard, od_guard, .func (PySem.W.fnOf "guard" "guard" (defArgs s_guard) (defBody s_guard) (defScope s_guard) .none kV_guard dc_guard pm_guard an_guard cd_guard ct_guard), sl_guard⟩)
    (c_guard : PySem.W.codeIn K cd_guard "guard" = true)
    (k_guard : PySem.W.keepIn K (.ref f_guard) = true)
    {od__law_cell_at an__law_cell_at : Option Addr} {sl__law_cell_at : Array (Option Value)} {oc__law_cell_at kV__law_cell_at dc__law_cell_at pm__law_cell_at cd__law_cell_at ct__law_cell_at : Value}
    (a__law_cell_at : PySem.W.nsIn K mainGlobals "_law_cell_at" = some (some (.ref f__law_cell_at)))
    (l__law_cell_at : K.lookup f__law_cell_at = some ⟨oc__law_cell_at, od__law_cell_at, .func (PySem.W.fnOf "_law_cell_at" "_law_cell_at" (defArgs s__law_cell_at) (defBody s__law_cell_at) (defScope s__law_cell_at) .none kV__law_cell_at dc__law_cell_at pm__law_cell_at an__law_cell_at cd__law_cell_at ct__law_cell_at), sl__law_cell_at⟩)
    (c__law_cell_at : PySem.W.codeIn K cd__law_cell_at "_law_cell_at" = true)
    (k__law_cell_at : PySem.W.keepIn K (.ref f__law_cell_at) = true)
    {od__law_well an__law_well : Option Addr} {sl__law_well : Array (Option Value)} {oc__law_well kV__law_well dc__law_well pm__law_well cd__law_well ct__law_well : Value}
    (a__law_well : PySem.W.nsIn K mainGlobals "_law_well" = some (some (.ref f__law_well)))
    (l__law_well : K.lookup f__law_well = some ⟨oc__law_well, od__law_well, .func (PySem.W.fnOf "_law_well" "_law_well" (defArgs s__law_well) (defBody s__law_well) (defScope s__law_well) .none kV__law_well dc__law_well pm__law_well an__law_well cd__law_well ct__law_well), sl__law_well⟩)
    (c__law_well : PySem.W.codeIn K cd__law_well "_law_well" = true)
    (k__law_well : PySem.W.keepIn K (.ref f__law_well) = true)
    {od__law_draw an__law_draw : Option Addr} {sl__law_draw : Array (Option Value)} {oc__law_draw kV__law_draw dc__law_draw pm__law_draw cd__law_draw ct__law_draw : Value}
    (a__law_draw : PySem.W.nsIn K mainGlobals "_law_draw" = some (some (.ref f__law_draw)))
    (l__law_draw : K.lookup f__law_draw = some ⟨oc__law_draw, od__law_draw, .func (PySem.W.fnOf "_law_draw" "_law_draw" (defArgs s__law_draw) (defBody s__law_draw) (defScope s__law_draw) .none kV__law_draw dc__law_draw pm__law_draw an__law_draw cd__law_draw ct__law_draw), sl__law_draw⟩)
    (c__law_draw : PySem.W.codeIn K cd__law_draw "_law_draw" = true)
    (k__law_draw : PySem.W.keepIn K (.ref f__law_draw) = true)
    {od__law_same an__law_same : Option Addr} {sl__law_same : Array (Option Value)} {oc__law_same kV__law_same dc__law_same pm__law_same cd__law_same ct__law_same : Value}
    (a__law_same : PySem.W.nsIn K mainGlobals "_law_same" = some (some (.ref f__law_same)))
    (l__law_same : K.lookup f__law_same = some ⟨oc__law_same, od__law_same, .func (PySem.W.fnOf "_law_same" "_law_same" (defArgs s__law_same) (defBody s__law_same) (defScope s__law_same) .none kV__law_same dc__law_same pm__law_same an__law_same cd__law_same ct__law_same), sl__law_same⟩)
    (c__law_same : PySem.W.codeIn K cd__law_same "_law_same" = true)
    (k__law_same : PySem.W.keepIn K (.ref f__law_same) = true)
    {od__law_tap an__law_tap : Option Addr} {sl__law_tap : Array (Option Value)} {oc__law_tap kV__law_tap dc__law_tap pm__law_tap cd__law_tap ct__law_tap : Value}
    (a__law_tap : PySem.W.nsIn K mainGlobals "_law_tap" = some (some (.ref f__law_tap)))
    (l__law_tap : K.lookup f__law_tap = some ⟨oc__law_tap, od__law_tap, .func (PySem.W.fnOf "_law_tap" "_law_tap" (defArgs s__law_tap) (defBody s__law_tap) (defScope s__law_tap) .none kV__law_tap dc__law_tap pm__law_tap an__law_tap cd__law_tap ct__law_tap), sl__law_tap⟩)
    (c__law_tap : PySem.W.codeIn K cd__law_tap "_law_tap" = true)
    (k__law_tap : PySem.W.keepIn K (.ref f__law_tap) = true)
    {od__law_sum an__law_sum : Option Addr} {sl__law_sum : Array (Option Value)} {oc__law_sum kV__law_sum dc__law_sum pm__law_sum cd__law_sum ct__law_sum : Value}
    (a__law_sum : PySem.W.nsIn K mainGlobals "_law_sum" = some (some (.ref f__law_sum)))
    (l__law_sum : K.lookup f__law_sum = some ⟨oc__law_sum, od__law_sum, .func (PySem.W.fnOf "_law_sum" "_law_sum" (defArgs s__law_sum) (defBody s__law_sum) (defScope s__law_sum) .none kV__law_sum dc__law_sum pm__law_sum an__law_sum cd__law_sum ct__law_sum), sl__law_sum⟩)
    (c__law_sum : PySem.W.codeIn K cd__law_sum "_law_sum" = true)
    (k__law_sum : PySem.W.keepIn K (.ref f__law_sum) = true)
    {od__law_room an__law_room : Option Addr} {sl__law_room : Array (Option Value)} {oc__law_room kV__law_room dc__law_room pm__law_room cd__law_room ct__law_room : Value}
    (a__law_room : PySem.W.nsIn K mainGlobals "_law_room" = some (some (.ref f__law_room)))
    (l__law_room : K.lookup f__law_room = some ⟨oc__law_room, od__law_room, .func (PySem.W.fnOf "_law_room" "_law_room" (defArgs s__law_room) (defBody s__law_room) (defScope s__law_room) .none kV__law_room dc__law_room pm__law_room an__law_room cd__law_room ct__law_room), sl__law_room⟩)
    (c__law_room : PySem.W.codeIn K cd__law_room "_law_room" = true)
    (k__law_room : PySem.W.keepIn K (.ref f__law_room) = true)
    {od_law an_law : Option Addr} {sl_law : Array (Option Value)} {oc_law kV_law dc_law pm_law cd_law ct_law : Value}
    (a_law : PySem.W.nsIn K mainGlobals "law" = some (some (.ref f_law)))
    (l_law : K.lookup f_law = some ⟨oc_law, od_law, .func (PySem.W.fnOf "law" "law" (defArgs s_law) (defBody s_law) (defScope s_law) .none kV_law dc_law pm_law an_law cd_law ct_law), sl_law⟩)
    (c_law : PySem.W.codeIn K cd_law "law" = true)
    (k_law : PySem.W.keepIn K (.ref f_law) = true)
    (aC_C : PySem.W.nsIn K mainGlobals "Form" = some (some (.ref C)))
    (pg_C : PySem.W.plainGet K C Str.empty = true)
    (hd_C : PySem.W.hasDictIn K C = true)
    (po_C : PySem.W.plainOver K C = true)
    (sa_C : PySem.W.findIn K (.ref C) "__setattr__" = some (some (.builtin "object.__setattr__")))
    (mk_C : PySem.W.makesIn K C = true)
    (kc_C : PySem.W.keepIn K (.ref C) = true)
    (n_C_width : PySem.W.findIn K (.ref C) "width" = some none)
    (n_C_point : PySem.W.findIn K (.ref C) "point" = some none)
    (n_C_manner : PySem.W.findIn K (.ref C) "manner" = some none)
    (n_C_ends : PySem.W.findIn K (.ref C) "ends" = some none)
    {od_Form_least an_Form_least : Option Addr} {sl_Form_least : Array (Option Value)} {oc_Form_least kV_Form_least dc_Form_least pm_Form_least cd_Form_least ct_Form_least : Value}
    (a_Form_least : PySem.W.findIn K (.ref C) "least" = some (some (.ref f_Form_least)))
    (i_Form_least : PySem.W.isFn K (.ref f_Form_least) = true)
    (l_Form_least : K.lookup f_Form_least = some ⟨oc_Form_least, od_Form_least, .func (PySem.W.fnOf "least" "Form.least" (defArgs s_Form_least) (defBody s_Form_least) (defScope s_Form_least) .none kV_Form_least dc_Form_least pm_Form_least an_Form_least cd_Form_least ct_Form_least), sl_Form_least⟩)
    (c_Form_least : PySem.W.codeIn K cd_Form_least "Form.least" = true)
    (k_Form_least : PySem.W.keepIn K (.ref f_Form_least) = true)
    {od_Form_greatest an_Form_greatest : Option Addr} {sl_Form_greatest : Array (Option Value)} {oc_Form_greatest kV_Form_greatest dc_Form_greatest pm_Form_greatest cd_Form_greatest ct_Form_greatest : Value}
    (a_Form_greatest : PySem.W.findIn K (.ref C) "greatest" = some (some (.ref f_Form_greatest)))
    (i_Form_greatest : PySem.W.isFn K (.ref f_Form_greatest) = true)
    (l_Form_greatest : K.lookup f_Form_greatest = some ⟨oc_Form_greatest, od_Form_greatest, .func (PySem.W.fnOf "greatest" "Form.greatest" (defArgs s_Form_greatest) (defBody s_Form_greatest) (defScope s_Form_greatest) .none kV_Form_greatest dc_Form_greatest pm_Form_greatest an_Form_greatest cd_Form_greatest ct_Form_greatest), sl_Form_greatest⟩)
    (c_Form_greatest : PySem.W.codeIn K cd_Form_greatest "Form.greatest" = true)
    (k_Form_greatest : PySem.W.keepIn K (.ref f_Form_greatest) = true)
    {od_Form___init__ an_Form___init__ : Option Addr} {sl_Form___init__ : Array (Option Value)} {oc_Form___init__ kV_Form___init__ dc_Form___init__ pm_Form___init__ cd_Form___init__ ct_Form___init__ : Value}
    {to_Form___init__ : Value} {td_Form___init__ : Option Addr} {tn_Form___init__ : Nat} {ts_Form___init__ : Array (Option Value)} {tk_Form___init___1 : Tok} {tk_Form___init___2 : Tok} {tk_Form___init___3 : Tok}
    (a_Form___init__ : PySem.W.findIn K (.ref C) "__init__" = some (some (.ref f_Form___init__)))
    (i_Form___init__ : PySem.W.isFn K (.ref f_Form___init__) = true)
    (l_Form___init__ : K.lookup f_Form___init__ = some ⟨oc_Form___init__, od_Form___init__, .func (PySem.W.fnOf "__init__" "Form.__init__" (defArgs s_Form___init__) (defBody s_Form___init__) (defScope s_Form___init__) (.ref T_Form___init__) kV_Form___init__ dc_Form___init__ pm_Form___init__ an_Form___init__ cd_Form___init__ ct_Form___init__), sl_Form___init__⟩)
    (c_Form___init__ : PySem.W.codeIn K cd_Form___init__ "Form.__init__" = true)
    (k_Form___init__ : PySem.W.keepIn K (.ref f_Form___init__) = true)
    (t_Form___init__ : K.lookup T_Form___init__ = some ⟨to_Form___init__, td_Form___init__, .seq [Value.none, Value.int 0 tk_Form___init___1, Value.str "half" tk_Form___init___2, Value.str "wrap" tk_Form___init___3].toArray tn_Form___init__, ts_Form___init__⟩)
    {tk_MOST_TAPS : Tok}
    (g_MOST_TAPS : PySem.W.nsIn K mainGlobals "MOST_TAPS" = some (some (.int 40 tk_MOST_TAPS)))
    {tk_NUMBER_END : Tok}
    (g_NUMBER_END : PySem.W.nsIn K mainGlobals "NUMBER_END" = some (some (.int 1000000000000000000 tk_NUMBER_END)))
    {tk_LEAST_WIDTH_taps : Tok}
    (g_LEAST_WIDTH_taps : PySem.W.nsIn K mainGlobals "LEAST_WIDTH_taps" = some (some (.int 2 tk_LEAST_WIDTH_taps)))
    {tk_LEAST_WIDTH_forms : Tok}
    (g_LEAST_WIDTH_forms : PySem.W.nsIn K mainGlobals "LEAST_WIDTH_forms" = some (some (.int 2 tk_LEAST_WIDTH_forms)))
    {tk_GREATEST_WIDTH : Tok}
    (g_GREATEST_WIDTH : PySem.W.nsIn K mainGlobals "GREATEST_WIDTH" = some (some (.int 64 tk_GREATEST_WIDTH)))
    {tk_GREATEST_POINT : Tok}
    (g_GREATEST_POINT : PySem.W.nsIn K mainGlobals "GREATEST_POINT" = some (some (.int 64 tk_GREATEST_POINT)))
    {tt_ENDS : Option Addr} {tn_ENDS : Nat} {ts_ENDS : Array (Option Value)} {tk_ENDS_0 : Tok} {tk_ENDS_1 : Tok}
    (g_ENDS : PySem.W.nsIn K mainGlobals "ENDS" = some (some (.ref A_ENDS)))
    (t_ENDS : K.lookup A_ENDS = some ⟨.type "tuple", tt_ENDS, .seq [Value.str "wrap" tk_ENDS_0, Value.str "stop" tk_ENDS_1].toArray tn_ENDS, ts_ENDS⟩)
    {es_MANNERS : Array DictEntry} {dn_MANNERS : Nat}
    (g_MANNERS : PySem.W.nsIn K mainGlobals "MANNERS" = some (some (.ref A_MANNERS)))
    (t_MANNERS : K.lookup A_MANNERS = some ⟨.type "dict", none, .dict es_MANNERS dn_MANNERS, #[]⟩)
    (y_MANNERS : PySem.W.KeysLit w.params es_MANNERS.toList)
    (w_MANNERS : (A_MANNERS == sysModules) = false)
    (d_MANNERS_down : PySem.W.nsIn K A_MANNERS "down" = some (some (.ref f_downward)))
    (d_MANNERS_up : PySem.W.nsIn K A_MANNERS "up" = some (some (.ref f_upward)))
    (d_MANNERS_in : PySem.W.nsIn K A_MANNERS "in" = some (some (.ref f_inward)))
    (d_MANNERS_out : PySem.W.nsIn K A_MANNERS "out" = some (some (.ref f_outward)))
    (d_MANNERS_half : PySem.W.nsIn K A_MANNERS "half" = some (some (.ref f_nearest_greater)))
    (d_MANNERS_even : PySem.W.nsIn K A_MANNERS "even" = some (some (.ref f_nearest_even)))
    (d_MANNERS_far : PySem.W.nsIn K A_MANNERS "far" = some (some (.ref f_nearest_far)))
    (fx_ha : PySem.W.findIn K (.ref C) "__class__" = some (some (.builtin "object.__class__")))
    (fx_hn : PySem.W.specialIn K (.builtin "object.__class__") "__get__" = some (some (.builtin "getset_descriptor.__get__")))
    (fx_ht : PySem.W.takesIn K (.builtin "object.__class__") = some true)
    (fx_hm : PySem.W.mroIn K C (.type "object") = some true)
    (fx_kC : PySem.W.kitOne K (.ref C) (.ref C) = some true)
    (z_isinstance : PySem.W.nsIn K mainGlobals "isinstance" = some none)
    (z_int : PySem.W.nsIn K mainGlobals "int" = some none)
    (z_bool : PySem.W.nsIn K mainGlobals "bool" = some none)
    (z_str : PySem.W.nsIn K mainGlobals "str" = some none)
    (z_abs : PySem.W.nsIn K mainGlobals "abs" = some none)
    (z_list : PySem.W.nsIn K mainGlobals "list" = some none)
    (z_len : PySem.W.nsIn K mainGlobals "len" = some none)
    (z_all : PySem.W.nsIn K mainGlobals "all" = some none)
    (z_sum : PySem.W.nsIn K mainGlobals "sum" = some none)
    (z_zip : PySem.W.nsIn K mainGlobals "zip" = some none)
    (z_max : PySem.W.nsIn K mainGlobals "max" = some none)
    (z_tuple : PySem.W.nsIn K mainGlobals "tuple" = some none)
    (z_enumerate : PySem.W.nsIn K mainGlobals "enumerate" = some none)
    (z_range : PySem.W.nsIn K mainGlobals "range" = some none) :
    ∃ fd : FuncData, (∀ (s : Shared) (v : Value), BindsTo s fd ⟨[v], []⟩ [("_law_script", v)]) ∧ ∀ base : Heap, K.In base → base.Ns mainGlobals mg → FnOk l.prog w K mg base CX0 6 fa fd ["_law_script"] (spLaw K) := by
  have F_is_whole := fun_mk (st := s_is_whole) l_is_whole c_is_whole k_is_whole
  have b_is_whole := F_is_whole.binds (ps := ["thing"]) fun _ _ _ _ _ _ us hl => match us, hl with | [_], _ => rfl
  have F_downward := fun_mk (st := s_downward) l_downward c_downward k_downward
  have b_downward := F_downward.binds (ps := ["top", "bottom"]) fun _ _ _ _ _ _ us hl => match us, hl with | [_, _], _ => rfl
  have F_upward := fun_mk (st := s_upward) l_upward c_upward k_upward
  have b_upward := F_upward.binds (ps := ["top", "bottom"]) fun _ _ _ _ _ _ us hl => match us, hl with | [_, _], _ => rfl
  have F_inward := fun_mk (st := s_inward) l_inward c_inward k_inward
  have b_inward := F_inward.binds (ps := ["top", "bottom"]) fun _ _ _ _ _ _ us hl => match us, hl with | [_, _], _ => rfl
  have F_outward := fun_mk (st := s_outward) l_outward c_outward k_outward
  have b_outward := F_outward.binds (ps := ["top", "bottom"]) fun _ _ _ _ _ _ us hl => match us, hl with | [_, _], _ => rfl
  have F_nearest_greater := fun_mk (st := s_nearest_greater) l_nearest_greater c_nearest_greater k_nearest_greater
  have b_nearest_greater := F_nearest_greater.binds (ps := ["top", "bottom"]) fun _ _ _ _ _ _ us hl => match us, hl with | [_, _], _ => rfl
  have F_nearest_even := fun_mk (st := s_nearest_even) l_nearest_even c_nearest_even k_nearest_even
  have b_nearest_even := F_nearest_even.binds (ps := ["top", "bottom"]) fun _ _ _ _ _ _ us hl => match us, hl with | [_, _], _ => rfl
  have F_nearest_far := fun_mk (st := s_nearest_far) l_nearest_far c_nearest_far k_nearest_far
  have b_nearest_far := F_nearest_far.binds (ps := ["top", "bottom"]) fun _ _ _ _ _ _ us hl => match us, hl with | [_, _], _ => rfl
  have F_is_manner := fun_mk (st := s_is_manner) l_is_manner c_is_manner k_is_manner
  have b_is_manner := F_is_manner.binds (ps := ["thing"]) fun _ _ _ _ _ _ us hl => match us, hl with | [_], _ => rfl
  have F_is_width := fun_mk (st := s_is_width) l_is_width c_is_width k_is_width
  have b_is_width := F_is_width.binds (ps := ["thing"]) fun _ _ _ _ _ _ us hl => match us, hl with | [_], _ => rfl
  have F_is_point := fun_mk (st := s_is_point) l_is_point c_is_point k_is_point
  have b_is_point := F_is_point.binds (ps := ["thing"]) fun _ _ _ _ _ _ us hl => match us, hl with | [_], _ => rfl
  have F_is_ends := fun_mk (st := s_is_ends) l_is_ends c_is_ends k_is_ends
  have b_is_ends := F_is_ends.binds (ps := ["thing"]) fun _ _ _ _ _ _ us hl => match us, hl with | [_], _ => rfl
  have F_is_numbers := fun_mk (st := s_is_numbers) l_is_numbers c_is_numbers k_is_numbers
  have b_is_numbers := F_is_numbers.binds (ps := ["thing", "least", "most"]) fun _ _ _ _ _ _ us hl => match us, hl with | [_, _, _], _ => rfl
  have F_dot := fun_mk (st := s_dot) l_dot c_dot k_dot
  have b_dot := F_dot.binds (ps := ["numbers", "others"]) fun _ _ _ _ _ _ us hl => match us, hl with | [_, _], _ => rfl
  have F_check_taps := fun_mk (st := s_check_taps) l_check_taps c_check_taps k_check_taps
  have b_check_taps := F_check_taps.binds (ps := ["taps"]) fun _ _ _ _ _ _ us hl => match us, hl with | [_], _ => rfl
  have F_extremes := fun_mk (st := s_extremes) l_extremes c_extremes k_extremes
  have b_extremes := F_extremes.binds (ps := ["taps", "low", "high"]) fun _ _ _ _ _ _ us hl => match us, hl with | [_, _, _], _ => rfl
  have F_width_for := fun_mk (st := s_width_for) l_width_for c_width_for k_width_for
  have b_width_for := F_width_for.binds (ps := ["number"]) fun _ _ _ _ _ _ us hl => match us, hl with | [_], _ => rfl
  have F_guard := fun_mk (st := s_guard) l_guard c_guard k_guard
  have b_guard := F_guard.binds (ps := ["taps", "form"]) fun _ _ _ _ _ _ us hl => match us, hl with | [_, _], _ => rfl
  have F__law_cell_at := fun_mk (st := s__law_cell_at) l__law_cell_at c__law_cell_at k__law_cell_at
  have b__law_cell_at := F__law_cell_at.binds (ps := ["_law_script", "_law_k"]) fun _ _ _ _ _ _ us hl => match us, hl with | [_, _], _ => rfl
  have F__law_well := fun_mk (st := s__law_well) l__law_well c__law_well k__law_well
  have b__law_well := F__law_well.binds (ps := ["_law_cell"]) fun _ _ _ _ _ _ us hl => match us, hl with | [_], _ => rfl
  have F__law_draw := fun_mk (st := s__law_draw) l__law_draw c__law_draw k__law_draw
  have b__law_draw := F__law_draw.binds (ps := ["_law_well_here", "_law_many"]) fun _ _ _ _ _ _ us hl => match us, hl with | [_, _], _ => rfl
  have F__law_same := fun_mk (st := s__law_same) l__law_same c__law_same k__law_same
  have b__law_same := F__law_same.binds (ps := ["_law_found", "_law_due"]) fun _ _ _ _ _ _ us hl => match us, hl with | [_, _], _ => rfl
  have F__law_tap := fun_mk (st := s__law_tap) l__law_tap c__law_tap k__law_tap
  have b__law_tap := F__law_tap.binds (ps := ["_law_well_here", "_law_sign_kind"]) fun _ _ _ _ _ _ us hl => match us, hl with | [_, _], _ => rfl
  have F__law_sum := fun_mk (st := s__law_sum) l__law_sum c__law_sum k__law_sum
  have b__law_sum := F__law_sum.binds (ps := ["_law_tap_list", "_law_row"]) fun _ _ _ _ _ _ us hl => match us, hl with | [_, _], _ => rfl
  have F__law_room := fun_mk (st := s__law_room) l__law_room c__law_room k__law_room
  have b__law_room := F__law_room.binds (ps := ["_law_width", "_law_number"]) fun _ _ _ _ _ _ us hl => match us, hl with | [_, _], _ => rfl
  have F_law := fun_mk (st := s_law) l_law c_law k_law
  have b_law := F_law.binds (ps := ["_law_script"]) fun _ _ _ _ _ _ us hl => match us, hl with | [_], _ => rfl
  have F_Form_least := fun_mk (st := s_Form_least) l_Form_least c_Form_least k_Form_least
  have b_Form_least := F_Form_least.binds (ps := ["self"]) fun _ _ _ _ _ _ us hl => match us, hl with | [_], _ => rfl
  have F_Form_greatest := fun_mk (st := s_Form_greatest) l_Form_greatest c_Form_greatest k_Form_greatest
  have b_Form_greatest := F_Form_greatest.binds (ps := ["self"]) fun _ _ _ _ _ _ us hl => match us, hl with | [_], _ => rfl
  have F_Form___init__ : FunD K "__init__" "Form.__init__" (defArgs s_Form___init__) (defBody s_Form___init__) (defScope s_Form___init__) [V.non, V.int 0, V.str "half", V.str "wrap"] [] f_Form___init__ _ := ⟨⟨_, _, _, _, _, _, _, _, _, _, rfl, l_Form___init__, c_Form___init__, .inr ⟨by simp, T_Form___init__, _, [Value.none, Value.int 0 tk_Form___init___1, Value.str "half" tk_Form___init___2, Value.str "wrap" tk_Form___init___3], _, rfl, t_Form___init__, rfl, (.cons rfl (.cons ⟨_, rfl⟩ (.cons ⟨_, rfl⟩ (.cons ⟨_, rfl⟩ .nil))))⟩, .inl rfl⟩, k_Form___init__⟩
  obtain ⟨ds_Form4, dv_Form4, b_Form4⟩ := F_Form___init__.binds1 (ps := ["self", "width", "point", "manner", "ends"]) 5 4 (by simp) rfl fun _ _ _ _ _ _ _ us its h1 h2 => match us, its, h1, h2 with | [_, _, _, _, _], [_, _, _, _], _, _ => ⟨_, rfl, rfl⟩
  cases dv_Form4
  have T_ENDS : ∀ H, SqT K H A_ENDS [V.str "wrap", V.str "stop"] := fun H => .inr ⟨_, _, _, t_ENDS, rfl, rfl, (by show 2 ≤ sizeLine; decide), (.cons ⟨_, rfl⟩ (.cons ⟨_, rfl⟩ .nil))⟩
  have gM := PySem.W.mg_of X G g_MOST_TAPS
  have gE := PySem.W.mg_of X G g_NUMBER_END
  have gT := PySem.W.mg_of X G g_LEAST_WIDTH_taps
  have z : Zs mg := ⟨PySem.W.mg_none_of X G z_isinstance, PySem.W.mg_none_of X G z_int, PySem.W.mg_none_of X G z_bool, PySem.W.mg_none_of X G z_str, PySem.W.mg_none_of X G z_abs, PySem.W.mg_none_of X G z_list, PySem.W.mg_none_of X G z_len, PySem.W.mg_none_of X G z_all, PySem.W.mg_none_of X G z_sum, PySem.W.mg_none_of X G z_zip, PySem.W.mg_none_of X G z_max, PySem.W.mg_none_of X G z_tuple, PySem.W.mg_none_of X G z_enumerate, PySem.W.mg_none_of X G z_range⟩
  have e := hfa.symm.trans (PySem.W.mg_of X G a_law)
  cases e
  refine ⟨PySem.W.fnOf "law" "law" (defArgs s_law) (defBody s_law) (defScope s_law) .none kV_law dc_law pm_law an_law cd_law ct_law, fun s v => .of_eq rfl, fun base _ _ => ?_⟩
  have c_is_whole : Cal l.prog w K mg base 1 "is_whole" ["thing"] _ := ⟨f_is_whole, _, PySem.W.mg_of X G a_is_whole, k_is_whole, b_is_whole, ok_is_whole (k := 0) F_is_whole z⟩
  have c_is_numbers : Cal l.prog w K mg base 2 "is_numbers" ["thing", "least", "most"] _ := ⟨f_is_numbers, _, PySem.W.mg_of X G a_is_numbers, k_is_numbers, b_is_numbers, ok_is_numbers F_is_numbers z _ gE c_is_whole⟩
  have c_dot : Cal l.prog w K mg base 1 "dot" ["numbers", "others"] _ := ⟨f_dot, _, PySem.W.mg_of X G a_dot, k_dot, b_dot, ok_dot (k := 0) F_dot z⟩
  have c_check_taps : Cal l.prog w K mg base 3 "check_taps" ["taps"] _ := ⟨f_check_taps, _, PySem.W.mg_of X G a_check_taps, k_check_taps, b_check_taps, ok_check_taps F_check_taps _ gM c_is_numbers⟩
  have c_extremes : Cal l.prog w K mg base 4 "extremes" ["taps", "low", "high"] _ := ⟨f_extremes, _, PySem.W.mg_of X G a_extremes, k_extremes, b_extremes, ok_extremes F_extremes z c_is_whole c_check_taps c_dot⟩
  have c_downward : Cal l.prog w K mg base 1 "downward" ["top", "bottom"] _ := ⟨f_downward, _, PySem.W.mg_of X G a_downward, k_downward, b_downward, ok_downward (k := 0) F_downward⟩
  have c_upward : Cal l.prog w K mg base 1 "upward" ["top", "bottom"] _ := ⟨f_upward, _, PySem.W.mg_of X G a_upward, k_upward, b_upward, ok_upward (k := 0) F_upward⟩
  have c_nearest_greater : Cal l.prog w K mg base 1 "nearest_greater" ["top", "bottom"] _ := ⟨f_nearest_greater, _, PySem.W.mg_of X G a_nearest_greater, k_nearest_greater, b_nearest_greater, ok_nearest_greater (k := 0) F_nearest_greater⟩
  have MM : Mans l.prog w K mg base A_MANNERS es_MANNERS dn_MANNERS := ⟨PySem.W.mg_of X G g_MANNERS, ⟨t_MANNERS, y_MANNERS, w_MANNERS⟩, fun m => match m with
    | .down => ⟨f_downward, _, d_MANNERS_down, k_downward, b_downward, ok_downward (k := 1) F_downward⟩
    | .up => ⟨f_upward, _, d_MANNERS_up, k_upward, b_upward, ok_upward (k := 1) F_upward⟩
    | .inn => ⟨f_inward, _, d_MANNERS_in, k_inward, b_inward, ok_inward F_inward c_downward c_upward⟩
    | .out => ⟨f_outward, _, d_MANNERS_out, k_outward, b_outward, ok_outward F_outward c_downward c_upward⟩
    | .half => ⟨f_nearest_greater, _, d_MANNERS_half, k_nearest_greater, b_nearest_greater, ok_nearest_greater (k := 1) F_nearest_greater⟩
    | .even => ⟨f_nearest_even, _, d_MANNERS_even, k_nearest_even, b_nearest_even, ok_nearest_even F_nearest_even c_nearest_greater⟩
    | .far => ⟨f_nearest_far, _, d_MANNERS_far, k_nearest_far, b_nearest_far, ok_nearest_far F_nearest_far c_nearest_greater⟩⟩
  have c_is_manner : Cal l.prog w K mg base 1 "is_manner" ["thing"] _ := ⟨f_is_manner, _, PySem.W.mg_of X G a_is_manner, k_is_manner, b_is_manner, ok_is_manner (k := 0) MM F_is_manner z⟩
  have Z : FCst K mg A_ENDS := ⟨⟨_, PySem.W.mg_of X G g_LEAST_WIDTH_forms⟩, ⟨_, PySem.W.mg_of X G g_GREATEST_WIDTH⟩, ⟨_, PySem.W.mg_of X G g_GREATEST_POINT⟩, PySem.W.mg_of X G g_ENDS, T_ENDS⟩
  have c_is_width : Cal l.prog w K mg base 2 "is_width" ["thing"] _ := ⟨f_is_width, _, PySem.W.mg_of X G a_is_width, k_is_width, b_is_width, ok_is_width Z F_is_width c_is_whole⟩
  have c_is_point : Cal l.prog w K mg base 2 "is_point" ["thing"] _ := ⟨f_is_point, _, PySem.W.mg_of X G a_is_point, k_is_point, b_is_point, ok_is_point Z F_is_point z c_is_whole⟩
  have c_is_ends : Cal l.prog w K mg base 1 "is_ends" ["thing"] _ := ⟨f_is_ends, _, PySem.W.mg_of X G a_is_ends, k_is_ends, b_is_ends, ok_is_ends (k := 0) Z F_is_ends z⟩
  have T : FTxt K mg C := ⟨⟨pg_C, hd_C, po_C, sa_C⟩, n_C_width, n_C_point, n_C_manner, n_C_ends⟩
  have FC : FX K mg C := ⟨PySem.W.mg_of X G aC_C, fx_ha, fx_hn, fx_ht, fx_hm, fx_kC⟩
  have c_Form : CalC l.prog w K mg base 3 "Form" C ["self", "width", "point", "manner", "ends"] [] _ := ⟨f_Form___init__, _, _, ⟨mk_C, a_Form___init__, i_Form___init__, kc_C⟩, PySem.W.mg_of X G aC_C, .nil, b_Form4, ok_Form___init__ T F_Form___init__ c_is_width c_is_point c_is_manner c_is_ends⟩
  have m_least : CalM l.prog w K mg base 1 C "least" ["self"] _ := ⟨f_Form_least, _, ⟨a_Form_least, i_Form_least, k_Form_least⟩, b_Form_least, ok_Form_least (k := 0) T F_Form_least⟩
  have m_greatest : CalM l.prog w K mg base 1 C "greatest" ["self"] _ := ⟨f_Form_greatest, _, ⟨a_Form_greatest, i_Form_greatest, k_Form_greatest⟩, b_Form_greatest, ok_Form_greatest (k := 0) T F_Form_greatest⟩
  have c_width_for : Cal l.prog w K mg base 1 "width_for" ["number"] _ := ⟨f_width_for, _, PySem.W.mg_of X G a_width_for, k_width_for, b_width_for, ok_width_for (k := 0) F_width_for z _ gT⟩
  have c_guard : Cal l.prog w K mg base 5 "guard" ["taps", "form"] _ := ⟨f_guard, _, PySem.W.mg_of X G a_guard, k_guard, b_guard, ok_guard T FC F_guard z _ gT c_check_taps c_extremes c_width_for m_least m_greatest⟩
  have kb_g := Fun.kbn (ps := ["taps", "form"]) (ks := ["form", "taps"]) (n := 0) (g := fun us ws => us ++ ws.reverse) (gV := fun vs zs => vs ++ zs.reverse) F_guard (fun a b => Vals.append a (Vals.rev b)) (fun _ _ _ _ _ _ us ws h1 h2 => match us, ws, h1, h2 with | [], [_, _], _, _ => rfl)
  have ck_g : CalK l.prog w K mg base 5 "guard" ["taps", "form"] 0 ["form", "taps"] (fun vs zs => vs ++ zs.reverse) (spGuard C) := ⟨f_guard, _, _, PySem.W.mg_of X G a_guard, k_guard, kb_g, ok_guard T FC F_guard z _ gT c_check_taps c_extremes c_width_for m_least m_greatest⟩
  have c__law_cell_at : Cal l.prog w K mg base 1 "_law_cell_at" ["_law_script", "_law_k"] _ := ⟨f__law_cell_at, _, PySem.W.mg_of X G a__law_cell_at, k__law_cell_at, b__law_cell_at, ok_cell (k := 0) F__law_cell_at z.len⟩
  have c__law_well : Cal l.prog w K mg base 1 "_law_well" ["_law_cell"] _ := ⟨f__law_well, _, PySem.W.mg_of X G a__law_well, k__law_well, b__law_well, ok_well (k := 0) F__law_well z.int⟩
  have c__law_draw : Cal l.prog w K mg base 1 "_law_draw" ["_law_well_here", "_law_many"] _ := ⟨f__law_draw, _, PySem.W.mg_of X G a__law_draw, k__law_draw, b__law_draw, ok_draw (k := 0) F__law_draw⟩
  have c__law_tap : Cal l.prog w K mg base 2 "_law_tap" ["_law_well_here", "_law_sign_kind"] _ := ⟨f__law_tap, _, PySem.W.mg_of X G a__law_tap, k__law_tap, b__law_tap, ok__law_tap F__law_tap c__law_draw⟩
  have c__law_sum : Cal l.prog w K mg base 1 "_law_sum" ["_law_tap_list", "_law_row"] _ := ⟨f__law_sum, _, PySem.W.mg_of X G a__law_sum, k__law_sum, b__law_sum, ok__law_sum (k := 0) F__law_sum z⟩
  have c__law_room : Cal l.prog w K mg base 1 "_law_room" ["_law_width", "_law_number"] _ := ⟨f__law_room, _, PySem.W.mg_of X G a__law_room, k__law_room, b__law_room, ok__law_room (k := 0) F__law_room⟩
  have c_same0 : Cal l.prog w K mg base 1 "_law_same" ["_law_found", "_law_due"] (spSameN 0) := ⟨f__law_same, _, PySem.W.mg_of X G a__law_same, k__law_same, b__law_same, ok_sameN (k := 0) F__law_same⟩
  have c_same1 : Cal l.prog w K mg base 2 "_law_same" ["_law_found", "_law_due"] (spSameN 1) := ⟨f__law_same, _, PySem.W.mg_of X G a__law_same, k__law_same, b__law_same, ok_same F__law_same z c_same0⟩
  have c_same2 : Cal l.prog w K mg base 3 "_law_same" ["_law_found", "_law_due"] (spSameN 2) := ⟨f__law_same, _, PySem.W.mg_of X G a__law_same, k__law_same, b__law_same, ok_same F__law_same z c_same1⟩
  have c_same3 : Cal l.prog w K mg base 4 "_law_same" ["_law_found", "_law_due"] (spSameN 3) := ⟨f__law_same, _, PySem.W.mg_of X G a__law_same, k__law_same, b__law_same, ok_same F__law_same z c_same2⟩
  exact ok_law T F_law z c__law_cell_at c__law_well c__law_draw c__law_tap c__law_sum c__law_room c_same3 c_Form c_guard ck_g

end E1

open PySem PySem.W PyProof.Rows
set_option maxRecDepth 100000 in
set_option maxHeartbeats 0 in
theorem PySem.Challenge.cw_echobound_k82_the_room_that_sums_need_holds : PySem.Challenge.rw_echobound_k82_the_room_that_sums_need.Holds := by
  w_on; o_law; k_head; (case hw => w_witness2)
  k_fill
  refine L2.walk_of (l := PySem.Challenge.rw_echobound_k82_the_room_that_sums_need) (n := 63) (k := 6) (x := "_law_script") (CX := fun _ => L2.CX0) (sp := fun w => E1.spLaw _) rfl (by decide) rfl ⟨rfl, by decide, by decide⟩ (fun w h Y => PySem.W.kIn_of Y) ?F (fun _ _ a ns hl _ hS => ⟨a, ns, rfl, hS, hl, fun _ => rfl⟩) (fun _ _ _ _ _ h => h)
  case F =>
    intro w mg fa h KX G hmg
    refine' E1.all_mk KX G hmg ?a_is_whole ?l_is_whole ?c_is_whole ?k_is_whole ?a_downward ?l_downward ?c_downward ?k_downward ?a_upward ?l_upward ?c_upward ?k_upward ?a_inward ?l_inward ?c_inward ?k_inward ?a_outward ?l_outward ?c_outward ?k_outward ?a_nearest_greater ?l_nearest_greater ?c_nearest_greater ?k_nearest_greater ?a_nearest_even ?l_nearest_even ?c_nearest_even ?k_nearest_even ?a_nearest_far ?l_nearest_far ?c_nearest_far ?k_nearest_far ?a_is_manner ?l_is_manner ?c_is_manner ?k_is_manner ?a_is_width ?l_is_width ?c_is_width ?k_is_width ?a_is_point ?l_is_point ?c_is_point ?k_is_point ?a_is_ends ?l_is_ends ?c_is_ends ?k_is_ends ?a_is_numbers ?l_is_numbers ?c_is_numbers ?k_is_numbers ?a_dot ?l_dot ?c_dot ?k_dot ?a_check_taps ?l_check_taps ?c_check_taps ?k_check_taps ?a_extremes ?l_extremes ?c_extremes ?k_extremes ?a_width_for ?l_width_for ?c_width_for ?k_width_for ?a_guard ?l_guard ?c_guard ?k_guard ?a__law_cell_at ?l__law_cell_at ?c__law_cell_at ?k__law_cell_at ?a__law_well ?l__law_well ?c__law_well ?k__law_well ?a__law_draw ?l__law_draw ?c__law_draw ?k__law_draw ?a__law_same ?l__law_same ?c__law_same ?k__law_same ?a__law_tap ?l__law_tap ?c__law_tap ?k__law_tap ?a__law_sum ?l__law_sum ?c__law_sum ?k__law_sum ?a__law_room ?l__law_room ?c__law_room ?k__law_room ?a_law ?l_law ?c_law ?k_law ?aC_C ?pg_C ?hd_C ?po_C ?sa_C ?mk_C ?kc_C ?n_C_width ?n_C_point ?n_C_manner ?n_C_ends ?a_Form_least ?i_Form_least ?l_Form_least ?c_Form_least ?k_Form_least ?a_Form_greatest ?i_Form_greatest ?l_Form_greatest ?c_Form_greatest ?k_Form_greatest ?a_Form___init__ ?i_Form___init__ ?l_Form___init__ ?c_Form___init__ ?k_Form___init__ ?t_Form___init__ ?g_MOST_TAPS ?g_NUMBER_END ?g_LEAST_WIDTH_taps ?g_LEAST_WIDTH_forms ?g_GREATEST_WIDTH ?g_GREATEST_POINT ?g_ENDS ?t_ENDS ?g_MANNERS ?t_MANNERS ?y_MANNERS ?w_MANNERS ?d_MANNERS_down ?d_MANNERS_up ?d_MANNERS_in ?d_MANNERS_out ?d_MANNERS_half ?d_MANNERS_even ?d_MANNERS_far ?fx_ha ?fx_hn ?fx_ht ?fx_hm ?fx_kC ?z_isinstance ?z_int ?z_bool ?z_str ?z_abs ?z_list ?z_len ?z_all ?z_sum ?z_zip ?z_max ?z_tuple ?z_enumerate ?z_range
    (case a_is_whole => k_is)
    (case l_is_whole => k_is)
    (case c_is_whole => k_is)
    (case k_is_whole => k_is)
    (case a_downward => k_is)
    (case l_downward => k_is)
    (case c_downward => k_is)
    (case k_downward => k_is)
    (case a_upward => k_is)
    (case l_upward => k_is)
    (case c_upward => k_is)
    (case k_upward => k_is)
    (case a_inward => k_is)
    (case l_inward => k_is)
    (case c_inward => k_is)
    (case k_inward => k_is)
    (case a_outward => k_is)
    (case l_outward => k_is)
    (case c_outward => k_is)
    (case k_outward => k_is)
    (case a_nearest_greater => k_is)
    (case l_nearest_greater => k_is)
    (case c_nearest_greater => k_is)
    (case k_nearest_greater => k_is)
    (case a_nearest_even => k_is)
    (case l_nearest_even => k_is)
    (case c_nearest_even => k_is)
    (case k_nearest_even => k_is)
    (case a_nearest_far => k_is)
    (case l_nearest_far => k_is)
    (case c_nearest_far => k_is)
    (case k_nearest_far => k_is)
    (case a_is_manner => k_is)
    (case l_is_manner => k_is)
    (case c_is_manner => k_is)
    (case k_is_manner => k_is)
    (case a_is_width => k_is)
    (case l_is_width => k_is)
    (case c_is_width => k_is)
    (case k_is_width => k_is)
    (case a_is_point => k_is)
    (case l_is_point => k_is)
    (case c_is_point => k_is)
    (case k_is_point => k_is)
    (case a_is_ends => k_is)
    (case l_is_ends => k_is)
    (case c_is_ends => k_is)
    (case k_is_ends => k_is)
    (case a_is_numbers => k_is)
    (case l_is_numbers => k_is)
    (case c_is_numbers => k_is)
    (case k_is_numbers => k_is)
    (case a_dot => k_is)
    (case l_dot => k_is)
    (case c_dot => k_is)
    (case k_dot => k_is)
    (case a_check_taps => k_is)
    (case l_check_taps => k_is)
    (case c_check_taps => k_is)
    (case k_check_taps => k_is)
    (case a_extremes => k_is)
    (case l_extremes => k_is)
    (case c_extremes => k_is)
    (case k_extremes => k_is)
    (case a_width_for => k_is)
    (case l_width_for => k_is)
    (case c_width_for => k_is)
    (case k_width_for => k_is)
    (case a_guard => k_is)
    (case l_guard => k_is)
    (case c_guard => k_is)
    (case k_guard => k_is)
    (case a__law_cell_at => k_is)
    (case l__law_cell_at => k_is)
    (case c__law_cell_at => k_is)
    (case k__law_cell_at => k_is)
    (case a__law_well => k_is)
    (case l__law_well => k_is)
    (case c__law_well => k_is)
    (case k__law_well => k_is)
    (case a__law_draw => k_is)
    (case l__law_draw => k_is)
    (case c__law_draw => k_is)
    (case k__law_draw => k_is)
    (case a__law_same => k_is)
    (case l__law_same => k_is)
    (case c__law_same => k_is)
    (case k__law_same => k_is)
    (case a__law_tap => k_is)
    (case l__law_tap => k_is)
    (case c__law_tap => k_is)
    (case k__law_tap => k_is)
    (case a__law_sum => k_is)
    (case l__law_sum => k_is)
    (case c__law_sum => k_is)
    (case k__law_sum => k_is)
    (case a__law_room => k_is)
    (case l__law_room => k_is)
    (case c__law_room => k_is)
    (case k__law_room => k_is)
    (case a_law => k_is)
    (case l_law => k_is)
    (case c_law => k_is)
    (case k_law => k_is)
    (case aC_C => k_is)
    (case pg_C => k_is)
    (case hd_C => k_is)
    (case po_C => k_is)
    (case sa_C => k_is)
    (case mk_C => k_is)
    (case kc_C => k_is)
    (case n_C_width => k_is)
    (case n_C_point => k_is)
    (case n_C_manner => k_is)
    (case n_C_ends => k_is)
    (case a_Form_least => k_is)
    (case i_Form_least => k_is)
    (case l_Form_least => k_is)
    (case c_Form_least => k_is)
    (case k_Form_least => k_is)
    (case a_Form_greatest => k_is)
    (case i_Form_greatest => k_is)
    (case l_Form_greatest => k_is)
    (case c_Form_greatest => k_is)
    (case k_Form_greatest => k_is)
    (case a_Form___init__ => k_is)
    (case i_Form___init__ => k_is)
    (case l_Form___init__ => k_is)
    (case c_Form___init__ => k_is)
    (case k_Form___init__ => k_is)
    (case t_Form___init__ => k_is)
    (case g_MOST_TAPS => k_is)
    (case g_NUMBER_END => k_is)
    (case g_LEAST_WIDTH_taps => k_is)
    (case g_LEAST_WIDTH_forms => k_is)
    (case g_GREATEST_WIDTH => k_is)
    (case g_GREATEST_POINT => k_is)
    (case g_ENDS => k_is)
    (case t_ENDS => k_is)
    (case g_MANNERS => k_is)
    (case t_MANNERS => k_is)
    (case y_MANNERS => (repeat' first | exact trivial | refine ⟨⟨_, _, rfl, rfl⟩, ?_⟩))
    (case w_MANNERS => first | k_is | rfl | decide +kernel)
    (case d_MANNERS_down => k_is)
    (case d_MANNERS_up => k_is)
    (case d_MANNERS_in => k_is)
    (case d_MANNERS_out => k_is)
    (case d_MANNERS_half => k_is)
    (case d_MANNERS_even => k_is)
    (case d_MANNERS_far => k_is)
    (case fx_ha => k_is)
    (case fx_hn => k_is)
    (case fx_ht => k_is)
    (case fx_hm => k_is)
    (case fx_kC => kit_is)
    (case z_isinstance => k_is)
    (case z_int => k_is)
    (case z_bool => k_is)
    (case z_str => k_is)
    (case z_abs => k_is)
    (case z_list => k_is)
    (case z_len => k_is)
    (case z_all => k_is)
    (case z_sum => k_is)
    (case z_zip => k_is)
    (case z_max => k_is)
    (case z_tuple => k_is)
    (case z_enumerate => k_is)
    (case z_range => k_is)
