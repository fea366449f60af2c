import PyProof.Rows.All
import Wide.All
import OpenK.AllK
import Wide.FinOn
import HandS.Codes
import HandS.ForMost
import HandS.Wide
import HandS.Zip
import HandS.IsInst
import HandS.Defaults
import HandS.Style
import HandS.RevRange
import HandS.Star
import HandS.Walk
import HandS.More
import HandS.WideBits
import OpenK.KEqL
import HandS.Flow
import HandS.Conv
import HandS.TupAny
import HandS.Small
import HandS.Deep
import KE.GoesMore
import KE.KRevIter
import HandS.Rev
import HandS.ForExc
import HandS.Lambda
import HandS.CallLocal
import KE.RegKSuper
import KE.RegKIsAll
import KE.RegKTryMore
import KE.KNestM
import HandS.EndTab
import PySem.Challenge.RW_echobound_k11_matrices_of_matrices
set_option Elab.async false
set_option linter.all false
set_option maxRecDepth 100000
set_option maxHeartbeats 4000000
namespace E1
open PySem PySem.Spec PyProof.Rows L2
/-! ### a def of the text that is called by its name -/
def Cal (P : Program) (w : World) (K : PySem.W.Frag) (mg : Str → Option Value) (base : Heap) (k : Nat) (x : Str) (ps : List Str) (sp : Sp) : Prop :=
  ∃ (f : Addr) (fd : FuncData), mg x = some (.ref f) ∧ PySem.W.keepIn K (.ref f) = true ∧ Binds K fd ps [] ∧ FnOk P w K mg base CX0 k f fd ps sp
theorem pe_cal {X : Cx} {k j : Nat} {x : Str} {ps : List Str} {sp : Sp} {e : Expr} {es : List Expr} {t : TA} {p pos : Pos} (c : Cal X.prog X.w X.K X.mg X.base k x ps sp) (hr : Room j X.A) (ha : PA X (e :: es) t) (hle : k ≤ j := by decide) (hg : Gl X x := by rfl)
    (hdb : (x == ("__debug__" : Str)) = false := by decide) (he : starEach (e :: es) X.env = (false, eval e X.env) :: starEach es X.env := by rfl) (hpl : (backTo pos (starEach es X.env)).any (·.1) = false := by rfl) :
    PE X (.Call (.Name x p) (e :: es) [] pos) (tCall sp [] E0 t) := by
  obtain ⟨f, fd, h1, h2, h3, h4⟩ := c
  exact pe_call h4 (hr.mono hle) hg h1 h2 h3 .nil pass0 ha hdb he hpl
/-! ### heaps -/
def SameBut (a : Addr) (H H' : Hp) : Prop := ∀ b o, b ≠ a → H b = some o → H' b = some o
theorem SameBut.refl (a : Addr) (H : Hp) : SameBut a H H := fun _ _ _ h => h
theorem SameBut.trans {a : Addr} {H H1 H2 : Hp} (x : SameBut a H H1) (y : SameBut a H1 H2) : SameBut a H H2 := fun b o n h => y b o n (x b o n h)
theorem SameBut.of {a : Addr} {H H' : Hp} (s : Same H H') : SameBut a H H' := fun b o _ h => s b o h
theorem SameBut.upd {a : Addr} {H : Hp} {o : HO} : SameBut a H (upd H a o) := fun b _ n h => by
  rw [upd_ne n]
  exact h
theorem same_new {H : Hp} {p : Addr} {o : HO} (h : H p = none) : Same H (upd H p o) := fun b x e => by
  rw [upd_ne (ne_of_none e h)]
  exact e
theorem Same.tup {K : PySem.W.Frag} {H H' : Hp} {a : Addr} {xs : List V} (e : Same H H') (h : SqT K H a xs) : SqT K H' a xs := by
  rcases h with (h | ⟨o, h⟩) | h
  · exact .inl (.inl (e _ _ h))
  · exact .inl (.inr ⟨o, e _ _ h⟩)
  · exact .inr h
theorem a0 {α : Type} {x : α} {l : List α} : atI (x :: l) 0 = some x := atI_nat (j := 0) rfl
theorem a1 {α : Type} {x y : α} {l : List α} : atI (x :: y :: l) 1 = some y := atI_nat (j := 1) rfl
theorem a2 {α : Type} {x y z : α} {l : List α} : atI (x :: y :: z :: l) 2 = some z := atI_nat (j := 2) rfl
theorem toB {p : Prop} [Decidable p] (h : decide p = true) : p := of_decide_eq_true h
theorem toNB {p : Prop} [Decidable p] (h : ¬ decide p = true) : ¬ p := fun z => h (decide_eq_true z)
/-- a well: the digits left, a number that is mixed, how many were mixed (at most c) -/
def WellAt (H : Hp) (a : Addr) (c : Int) : Prop := ∃ x y z : Int, H a = some (.lst [.int x, .int y, .int z]) ∧ 0 ≤ y ∧ y < 2147483647 ∧ 0 ≤ z ∧ z ≤ c
theorem WellAt.mono {H : Hp} {a : Addr} {c d : Int} (h : WellAt H a c) (l : c ≤ d) : WellAt H a d := by
  obtain ⟨x, y, z, e, h1, h2, h3, h4⟩ := h
  exact ⟨x, y, z, e, h1, h2, h3, by omega⟩
theorem WellAt.same {H H' : Hp} {a : Addr} {c : Int} (h : WellAt H a c) (s : Same H H') : WellAt H' a c := by
  obtain ⟨x, y, z, e, h1, h2, h3, h4⟩ := h
  exact ⟨x, y, z, s _ _ e, h1, h2, h3, h4⟩
theorem WellAt.but {H H' : Hp} {a b : Addr} {c : Int} (h : WellAt H a c) (s : SameBut b H H') (n : a ≠ b) : WellAt H' a c := by
  obtain ⟨x, y, z, e, h1, h2, h3, h4⟩ := h
  exact ⟨x, y, z, s _ _ n e, h1, h2, h3, h4⟩
/-! ### promises of the law's helpers -/
def spCell (K : PySem.W.Frag) : Sp := fun vs H Q _ => ∃ (a : Addr) (ns : List Int) (k : Nat), vs = [.ref a, .int k] ∧ SqL K H a (ns.map V.int) ∧ Q (.int (ns.getD k 0)) H
def spWell : Sp := fun vs H Q _ => ∃ c : Int, vs = [.int c] ∧ ∀ p : Addr, H p = none → ∀ H', Same H H' → WellAt H' p 0 → Q (.ref p) H'
/-- a number from 0 to below m; the well has at most one more -/
def spDraw : Sp := fun vs H Q _ => ∃ (a : Addr) (c m : Int), vs = [.ref a, .int m] ∧ WellAt H a c ∧ c ≤ 1000000000 ∧ 0 < m ∧ m.natAbs < 2 ^ 9000 ∧
  ∀ (r : Int) (H' : Hp), 0 ≤ r → r < m → SameBut a H H' → (∀ b, H b = none → H' b = none) → WellAt H' a (c + 1) → Q (.int r) H'
def topS (i : Nat) : Stmt := PySem.Challenge.pw_echobound_k11_matrices_of_matrices.main.body.getD i (.Pass ⟨0, 0, 0, 0⟩)
abbrev s_is_whole : Stmt := topS 7
abbrev s_is_fraction : Stmt := topS 8
abbrev s_shared_divisor : Stmt := topS 9
abbrev s_lowest : Stmt := topS 10
abbrev s_plus : Stmt := topS 11
abbrev s_times : Stmt := topS 12
abbrev s_is_fractions : Stmt := topS 14
abbrev s_common_bottom : Stmt := topS 15
abbrev s_cleared : Stmt := topS 16
abbrev s_dot : Stmt := topS 17
abbrev s_is_row : Stmt := topS 20
abbrev s_is_matrix : Stmt := topS 21
abbrev s_shape_of : Stmt := topS 22
abbrev s_turned_over : Stmt := topS 23
abbrev s_is_list_of : Stmt := topS 24
abbrev s_check_matrix : Stmt := topS 25
abbrev s_check_list : Stmt := topS 26
abbrev s_shape : Stmt := topS 27
abbrev s_unit : Stmt := topS 28
abbrev s_mirrored : Stmt := topS 29
abbrev s_sum_of : Stmt := topS 30
abbrev s_met : Stmt := topS 31
abbrev s_product : Stmt := topS 32
abbrev s_scaled : Stmt := topS 33
abbrev s_led : Stmt := topS 34
abbrev s__law_cell_at : Stmt := topS 36
abbrev s__law_well : Stmt := topS 37
abbrev s__law_draw : Stmt := topS 38
abbrev s__law_one : Stmt := topS 39
abbrev s__law_low : Stmt := topS 40
abbrev s__law_sum : Stmt := topS 41
abbrev s__law_dot : Stmt := topS 42
abbrev s__law_great : Stmt := topS 43
abbrev s__law_place : Stmt := topS 44
abbrev s__law_matrix : Stmt := topS 45
abbrev s__law_plain : Stmt := topS 46
abbrev s__law_twice : Stmt := topS 47
abbrev s__law_columns : Stmt := topS 48
abbrev s__law_by_one : Stmt := topS 49
abbrev s_law : Stmt := topS 50
section
variable {P : Program} {w : World} {K : PySem.W.Frag} {mg : Str → Option Value} {base : Heap}
end
end E1

namespace E1
open PySem PySem.Spec PyProof.Rows L2

def CalD (P : Program) (w : World) (K : PySem.W.Frag) (mg : Str → Option Value) (base : Heap) (k : Nat) (x : Str) (ps : List Str) (dvs : List V) (sp : Sp) : Prop :=
  ∃ (f : Addr) (fd : FuncData) (ds : List Value), mg x = some (.ref f) ∧ PySem.W.keepIn K (.ref f) = true ∧ Vals dvs ds ∧ Binds K fd ps ds ∧ FnOk P w K mg base CX0 k f fd ps sp
theorem pe_cald {X : Cx} {k j : Nat} {x : Str} {ps : List Str} {dvs : List V} {sp : Sp} {e : Expr} {es : List Expr} {t : TA} {p pos : Pos} (c : CalD X.prog X.w X.K X.mg X.base k x ps dvs sp) (hr : Room j X.A) (ha : PA X (e :: es) t) (hle : k ≤ j := by decide) (hg : Gl X x := by rfl)
    (hdb : (x == ("__debug__" : Str)) = false := by decide) (he : starEach (e :: es) X.env = (false, eval e X.env) :: starEach es X.env := by rfl) (hpl : (backTo pos (starEach es X.env)).any (·.1) = false := by rfl) :
    PE X (.Call (.Name x p) (e :: es) [] pos) (tCall sp dvs E0 t) := by
  obtain ⟨f, fd, ds, h1, h2, hd, h3, h4⟩ := c
  exact pe_call h4 (hr.mono hle) hg h1 h2 h3 hd pass0 ha hdb he hpl
def CalK (P : Program) (w : World) (K : PySem.W.Frag) (mg : Str → Option Value) (base : Heap) (k : Nat) (x : Str) (ps : List Str) (n : Nat) (ks : List Str) (gV : List V → List V → List V) (sp : Sp) : Prop :=
  ∃ (f : Addr) (fd : FuncData) (g : List Value → List Value → List Value), mg x = some (.ref f) ∧ PySem.W.keepIn K (.ref f) = true ∧ KBn K fd ps n ks g gV ∧ FnOk P w K mg base CX0 k f fd ps sp
theorem pe_calk {X : Cx} {k j n : Nat} {x : Str} {ps ks : List Str} {gV : List V → List V → List V} {sp : Sp} {e : Expr} {es : List Expr} {kws : List Keyword} {t tk : TA} {p pos : Pos} (c : CalK X.prog X.w X.K X.mg X.base k x ps n ks gV sp) (hr : Room j X.A)
    (ha : PA X (e :: es) t) (hkw : PK X kws tk) (hle : k ≤ j := by decide) (hg : Gl X x := by rfl) (hall : (backToKw pos (keywordEach kws X.env)).all (·.1.isSome) = true := by rfl) (hks : (backToKw pos (keywordEach kws X.env)).filterMap (·.1) = ks := by rfl)
    (hdb : (x == ("__debug__" : Str)) = false := by decide) (he : starEach (e :: es) X.env = (false, eval e X.env) :: starEach es X.env := by rfl)
    (hpl : ((backTo pos (starEach (e :: es) X.env)).any (·.1) || (backToKw pos (keywordEach kws X.env)).any (·.1.isNone)) = false := by rfl) :
    PE X (.Call (.Name x p) (e :: es) kws pos) (tCallN n ks.length sp gV E0 t tk) := by
  obtain ⟨f, fd, g, h1, h2, h3, h4⟩ := c
  exact pe_callN h4 (hr.mono hle) hg h1 h2 h3 pass0 ha hkw hall hks hdb he hpl
theorem pe_calk0 {X : Cx} {k j : Nat} {x : Str} {ps ks : List Str} {gV : List V → List V → List V} {sp : Sp} {kws : List Keyword} {tk : TA} {p pos : Pos} (c : CalK X.prog X.w X.K X.mg X.base k x ps 0 ks gV sp) (hr : Room j X.A)
    (hkw : PK X kws tk) (hle : k ≤ j := by decide) (hg : Gl X x := by rfl) (hall : (backToKw pos (keywordEach kws X.env)).all (·.1.isSome) = true := by rfl) (hks : (backToKw pos (keywordEach kws X.env)).filterMap (·.1) = ks := by rfl)
    (hdb : (x == ("__debug__" : Str)) = false := by decide)
    (hpl : ((backTo pos (starEach [] X.env)).any (·.1) || (backToKw pos (keywordEach kws X.env)).any (·.1.isNone)) = false := by rfl) :
    PE X (.Call (.Name x p) [] kws pos) (tCallN 0 ks.length sp gV E0 tNil tk) := by
  obtain ⟨f, fd, g, h1, h2, h3, h4⟩ := c
  refine ⟨fun pins s σ H Q I h => ?_⟩
  refine wpAny_Call_Name_kw (ld_glob I hg h1 ?_ hdb)
  refine PySem.W.callWith_KW0 (h₀ := X.base) I.ok.mod.kin h2 hall (thn (hkw.run pos pins s σ H _ I h) fun ws s2 ⟨zs, H2, I2, rz, l1, l2, q2⟩ => ⟨I2.kIn, ?_⟩) hpl
  rw [hks]
  exact run_fnN (vs := []) (us := []) h4 (hr.mono hle) h3 pass0 I2 .nil rz l1 l2 q2
/-- a class handed to isinstance -/
theorem isiB {K : PySem.W.Frag} {H : Hp} {x : V} {a b : String} {r : Bool} {Q : VK} (ty : TyX K H x (.type a)) (k : kitB a b = some r) (q : Q (.bl r) H) : rIsi K [x, .ty b] H Q :=
  ⟨x, .ty b, .type a, .type b, r, rfl, .ty _, ty, kit_ty k, q⟩
/-- whether a thing is a whole number -/
def WholeIs (K : PySem.W.Frag) (H : Hp) (x : V) (b : Bool) : Prop := (∃ i, x = .int i ∧ b = true) ∨ (∃ c, x = .bl c ∧ b = false) ∨ (b = false ∧ ∃ t : String, TyX K H x (.type t) ∧ kitB t "int" = some false)
theorem WholeIs.int {K : PySem.W.Frag} {H : Hp} (i : Int) : WholeIs K H (.int i) true := .inl ⟨i, rfl, rfl⟩
def spWhole (K : PySem.W.Frag) : Sp := fun vs H Q _ => ∃ (x : V) (b : Bool), vs = [x] ∧ WholeIs K H x b ∧ Q (.bl b) H
/-! ### the mathematics of fractions in lowest terms -/
def gI (t b : Int) : Int := (Int.gcd t b : Nat)
def lowT (t b : Int) : Int := (if b < 0 then -t else t) / gI t b
def lowB (t b : Int) : Int := (if b < 0 then -b else b) / gI t b
theorem gI_neg (t b : Int) : gI (-t) (-b) = gI t b := by
  unfold gI
  rw [Int.neg_gcd, Int.gcd_neg]
theorem gI_pos {t b : Int} (h : b ≠ 0) : 0 < gI t b := by
  have : 0 < Int.gcd t b := Int.gcd_pos_of_ne_zero_right t h
  unfold gI
  omega
theorem gI_le {t b : Int} (h : b ≠ 0) : (gI t b).natAbs ≤ b.natAbs := by
  have d : Int.gcd t b ∣ b.natAbs := Nat.gcd_dvd_right t.natAbs b.natAbs
  have := Nat.le_of_dvd (by omega) d
  unfold gI
  omega
def spShared : Sp := fun vs H Q _ => ∃ t b : Int, vs = [.int t, .int b] ∧ 0 ≤ b ∧ Q (.int (gI t b)) H
def spLow : Sp := fun vs H Q _ => ∃ t b : Int, vs = [.int t, .int b] ∧ b ≠ 0 ∧ b.natAbs < 2 ^ 4000 ∧ ∀ p, H p = none → Q (.ref p) (upd H p (.tup [.int (lowT t b), .int (lowB t b)]))
/-- two fractions at two places; the tops and bottoms told by f and d -/
def spTwo (K : PySem.W.Frag) (pre : Int → Int → Int → Int → Prop) (f d : Int → Int → Int → Int → Int) : Sp := fun vs H Q _ => ∃ (a c : Addr) (t u v x : Int), vs = [.ref a, .ref c] ∧ SqT K H a [.int t, .int u] ∧ SqT K H c [.int v, .int x] ∧
  pre t u v x ∧ 0 < u ∧ 0 < x ∧ t.natAbs < 2 ^ 1900 ∧ u.natAbs < 2 ^ 1900 ∧ v.natAbs < 2 ^ 1900 ∧ x.natAbs < 2 ^ 1900 ∧ ∀ p, H p = none → Q (.ref p) (upd H p (.tup [.int (lowT (f t u v x) (d t u v x)), .int (lowB (f t u v x) (d t u v x))]))
def spUnder (K : PySem.W.Frag) : Sp := fun vs H Q _ => ∃ (a c : Addr) (t u v x : Int), vs = [.ref a, .ref c] ∧ SqT K H a [.int t, .int u] ∧ SqT K H c [.int v, .int x] ∧
  t.natAbs < 2 ^ 1900 ∧ u.natAbs < 2 ^ 1900 ∧ v.natAbs < 2 ^ 1900 ∧ x.natAbs < 2 ^ 1900 ∧ Q (.bl (decide (t * x < v * u))) H
def absI (t : Int) : Int := if t < 0 then -t else t
def spSize (K : PySem.W.Frag) : Sp := fun vs H Q _ => ∃ (a : Addr) (t u : Int), vs = [.ref a] ∧ SqT K H a [.int t, .int u] ∧ ∀ p, H p = none → Q (.ref p) (upd H p (.tup [.int (absI t), .int u]))
def twoT (m : Int) : Int := if m < 0 then 1 else 2 ^ m.toNat
def twoB (m : Int) : Int := if m < 0 then 2 ^ (-m).toNat else 1
def spTwoTo : Sp := fun vs H Q _ => ∃ m : Int, vs = [.int m] ∧ -400 ≤ m ∧ m ≤ 400 ∧ ∀ p, H p = none → Q (.ref p) (upd H p (.tup [.int (twoT m), .int (twoB m)]))
def spIsFrac : Sp := fun vs H Q _ => ∃ (a : Addr) (t u : Int), vs = [.ref a] ∧ H a = some (.tup [.int t, .int u]) ∧ 1 ≤ u ∧ Q (.bl (decide (gI t u = 1))) H
theorem up {x : Nat} {a b : Nat} (h : x < 2 ^ a) (l : a ≤ b) : x < 2 ^ b := Nat.lt_of_lt_of_le h (Nat.pow_le_pow_right (by decide) l)
theorem same_but {H H1 H2 : Hp} {p : Addr} (s : Same H H1) (b : SameBut p H1 H2) (hp : H p = none) : Same H H2 := fun a o e => b a o (ne_of_none e hp) (s a o e)
theorem iteN {c A B : Prop} [Decidable c] (h1 : ¬ c → A) (h2 : c → B) : if (!decide c) = true then A else B := by
  by_cases h : c
  · rw [decide_eq_true h]
    exact iteF (h2 h)
  · rw [decide_eq_false h]
    exact iteT (h1 h)
theorem Same.free {H H' : Hp} {p : Addr} (s : Same H H') (h : H' p = none) : H p = none := by
  cases e : H p with
  | none => rfl
  | some o =>
    rw [s _ _ e] at h
    cases h
structure Zs (mg : Str → Option Value) : Prop where
  isinstance : mg "isinstance" = none
  int : mg "int" = none
  bool : mg "bool" = none
  tuple : mg "tuple" = none
  len : mg "len" = none
  abs : mg "abs" = none
  list : mg "list" = none
  all : mg "all" = none
  sum : mg "sum" = none
  zip : mg "zip" = none
  range : mg "range" = none
section
variable {P : Program} {w : World} {K : PySem.W.Frag} {mg : Str → Option Value} {base : Heap}
theorem sc_is_whole : FnScope ["thing"] ["thing"] (defScope s_is_whole) := ⟨rfl, rfl, rfl, by decide +kernel, rfl, by decide +kernel, by decide +kernel⟩
theorem ok_is_whole {f : Addr} {fd : FuncData} {k : Nat} (F : Fun K "is_whole" "is_whole" s_is_whole f fd) (z : Zs mg) : FnOk P w K mg base CX0 (k + 1) f fd ["thing"] (spWhole K) := by
  refine F.ok sc_is_whole (fun vs H Q E h => ?_) (fun cdv A outer s H vs Q E hr h => ?_)
  · obtain ⟨x, b, rfl, _⟩ := h
    rfl
  · obtain ⟨x, b, rfl, hw, q⟩ := h
    refine ⟨_, (pss_one (ps_ret (pe_and (pe_callB call_isi (by rfl) z.isinstance (by decide +kernel) (pa_cons (pv 0) (pa_cons (pe_bltn (v := .ty "int") (by rfl) z.int (by decide +kernel) rfl) pa_nil))) (pe_one (pe_not (pe_callB call_isi (by rfl) z.isinstance (by decide +kernel) (pa_cons (pv 0) (pa_cons (pe_bltn (v := .ty "bool") (by rfl) z.bool (by decide +kernel) rfl) pa_nil)))))))), ?_⟩
    rcases hw with ⟨i, rfl, rfl⟩ | ⟨c, rfl, rfl⟩ | ⟨rfl, t, ty, kt⟩
    · exact ⟨_, rfl, _, .ty "int", _, _, true, rfl, .ty _, .base (.int i), kit_ty (by decide +kernel), _, rfl, iteT ⟨_, rfl, _, .ty "bool", _, _, false, rfl, .ty _, .base (.int i), kit_ty (by decide +kernel), _, rfl, q⟩⟩
    · exact ⟨_, rfl, _, .ty "int", _, _, true, rfl, .ty _, .base (.bl c), kit_ty (by decide +kernel), _, rfl, iteT ⟨_, rfl, _, .ty "bool", _, _, true, rfl, .ty _, .base (.bl c), kit_ty (by decide +kernel), _, rfl, q⟩⟩
    · exact ⟨_, rfl, _, .ty "int", _, _, false, rfl, .ty _, ty, kit_ty kt, _, rfl, iteF q⟩
theorem sc_shared_divisor : FnScope ["top", "bottom", "one", "other"] ["top", "bottom"] (defScope s_shared_divisor) := ⟨rfl, rfl, rfl, by decide +kernel, rfl, by decide +kernel, by decide +kernel⟩
theorem ok_shared_divisor {f : Addr} {fd : FuncData} {k : Nat} (F : Fun K "shared_divisor" "shared_divisor" s_shared_divisor f fd) (z : Zs mg) : FnOk P w K mg base CX0 (k + 1) f fd ["top", "bottom"] spShared := by
  refine F.ok sc_shared_divisor (fun vs H Q E h => ?_) (fun cdv A outer s H vs Q E hr h => ?_)
  · obtain ⟨t, b, rfl, _⟩ := h
    rfl
  · obtain ⟨t, b, rfl, hb, q⟩ := h
    refine ⟨_, (pss_cons (ps_set (i := 2) sc_shared_divisor.nd rfl (.inl rfl) (pe_callB call_abs (by rfl) z.abs (by decide +kernel) (pa_cons (pv 0) pa_nil)))
      (pss_cons (ps_set (i := 3) sc_shared_divisor.nd rfl (.inl rfl) (pv 1))
      (pss_cons (ps_while PassesOwn.never (pt_truth (pv 3) (by intro _; rfl)) (pss_one (ps_par (i := 2) (j := 3) (by rfl) sc_shared_divisor.nd rfl rfl (by decide) rfl rfl (pa_cons (pv 3) (pa_cons (pe_op op_mod (pv 2) (pv 3)) pa_nil)) (by rfl))))
      (pss_one (ps_ret (pv 2)))))), ?_⟩
    refine ⟨_, rfl, _, rfl, ?_⟩
    refine ⟨_, rfl, ?_⟩
    dsimp only [gName, tSeq]
    refine while_by (fun σ H' => H' = H ∧ ∃ m n : Nat, σ = [some (.int t), some (.int b), some (.int (m : Int)), some (.int (n : Int))] ∧ Nat.gcd m n = Int.gcd t b)
      (fun σ _ => match σ with | [_, _, _, some (.int r)] => r.toNat | _ => 0) ⟨rfl, t.natAbs, b.natAbs, ?_, rfl⟩ (fun σ H1 hP => ?_) (fun σ H Q Q' m hh => ?_)
    · have e1 : (if t < 0 then -t else t) = (t.natAbs : Int) := by split <;> omega
      have e2 : b = (b.natAbs : Int) := by omega
      show [some (V.int t), some (V.int b), some (V.int (if t < 0 then -t else t)), some (V.int b)] = _
      rw [e1, ← e2]
    · obtain ⟨rfl, m, n, rfl, hg⟩ := hP
      refine ⟨_, rfl, _, rfl, ?_⟩
      by_cases hn : n = 0
      · subst hn
        have e : ((((0 : Nat) : Int)) != 0) = false := rfl
        rw [e]
        refine iteF ⟨_, rfl, ?_⟩
        rw [Nat.gcd_zero_right] at hg
        have e2 : (m : Int) = gI t b := by
          unfold gI
          rw [hg]
        rw [e2]
        exact q
      · have e : ((n : Int) != 0) = true := by
          rw [bne_iff_ne]
          omega
        rw [e]
        refine iteT ⟨_, rfl, _, rfl, _, rfl, _, _, rfl, rfl, (by omega), _, _, rfl, ⟨⟨rfl, n, m % n, rfl, ?_⟩, ?_⟩⟩
        · rw [← hg, Nat.gcd_comm n (m % n), ← Nat.gcd_rec n m, Nat.gcd_comm]
        · show ((m : Int) % (n : Int)).toNat < ((n : Int)).toNat
          have := Int.emod_lt_of_pos (m : Int) (show (0 : Int) < n by omega)
          have := Int.emod_nonneg (m : Int) (show (n : Int) ≠ 0 by omega)
          omega
    · obtain ⟨v, e, kk, tv, hq⟩ := hh
      exact ⟨v, e, kk, tv, m _ _ hq⟩
theorem sc_lowest : FnScope ["top", "bottom", "shared"] ["top", "bottom"] (defScope s_lowest) := ⟨rfl, rfl, rfl, by decide +kernel, rfl, by decide +kernel, by decide +kernel⟩
theorem ok_lowest {f : Addr} {fd : FuncData} (F : Fun K "lowest" "lowest" s_lowest f fd) (c_shared_divisor : Cal P w K mg base 1 "shared_divisor" ["top", "bottom"] spShared) : FnOk P w K mg base CX0 2 f fd ["top", "bottom"] spLow := by
  refine F.ok sc_lowest (fun vs H Q E h => ?_) (fun cdv A outer s H vs Q E hr h => ?_)
  · obtain ⟨t, b, rfl, _⟩ := h
    rfl
  · obtain ⟨t, b, rfl, hb, hl, q⟩ := h
    refine ⟨_, (pss_cons (ps_if (pt_cmpR op_lt (pv 1) pe_int (nomark _)) (pss_cons (ps_set (i := 0) sc_lowest.nd rfl (.inl rfl) (pe_un un_neg (pv 0)))
      (pss_one (ps_set (i := 1) sc_lowest.nd rfl (.inl rfl) (pe_un un_neg (pv 1))))) pss_nil)
      (pss_cons (ps_set (i := 2) sc_lowest.nd rfl (.inl rfl) (pe_cal c_shared_divisor hr (pa_cons (pv 0) (pa_cons (pv 1) pa_nil))))
      (pss_one (ps_ret (pe_tup (pa_cons (pe_op op_fdivW (pv 0) (pv 2)) (pa_cons (pe_op op_fdivW (pv 1) (pv 2)) pa_nil))))))), ?_⟩
    have g0 := gI_pos (t := t) hb
    have g1 : (gI t b).natAbs < 2 ^ 4000 := Nat.lt_of_le_of_lt (gI_le hb) hl
    refine ⟨_, rfl, _, _, rfl, rfl, _, rfl, ite2 (fun c => ?_) (fun c => ?_)⟩
    · have hc := toB c
      refine ⟨_, rfl, _, rfl, ?_⟩
      refine ⟨_, rfl, _, rfl, ?_⟩
      refine ⟨_, rfl, _, rfl, -t, -b, rfl, by omega, ?_⟩
      rw [gI_neg]
      refine ⟨_, rfl, _, rfl, _, _, rfl, rfl, wide_div g0 g1 (by decide) (by decide), _, rfl, _, rfl, _, _, rfl, rfl, wide_div g0 g1 (by decide) (by decide), (by show 2 ≤ sizeLine; decide), fun p hp => ?_⟩
      have := q p hp
      unfold lowT lowB at this
      rw [if_pos hc, if_pos hc] at this
      exact this
    · have hc := toNB c
      refine ⟨_, rfl, _, rfl, t, b, rfl, by omega, ?_⟩
      refine ⟨_, rfl, _, rfl, _, _, rfl, rfl, wide_div g0 g1 (by decide) (by decide), _, rfl, _, rfl, _, _, rfl, rfl, wide_div g0 g1 (by decide) (by decide), (by show 2 ≤ sizeLine; decide), fun p hp => ?_⟩
      have := q p hp
      unfold lowT lowB at this
      rw [if_neg hc, if_neg hc] at this
      exact this
theorem sc_plus : FnScope ["one", "other"] ["one", "other"] (defScope s_plus) := ⟨rfl, rfl, rfl, by decide +kernel, rfl, by decide +kernel, by decide +kernel⟩
theorem ok_plus {f : Addr} {fd : FuncData} (F : Fun K "plus" "plus" s_plus f fd) (c_lowest : Cal P w K mg base 2 "lowest" ["top", "bottom"] spLow) : FnOk P w K mg base CX0 3 f fd ["one", "other"] (spTwo K (fun t u v x => True) (fun t u v x => t * x + v * u) (fun t u v x => u * x)) := by
  refine F.ok sc_plus (fun vs H Q E h => ?_) (fun cdv A outer s H vs Q E hr h => ?_)
  · obtain ⟨a, c, t, u, v, x, rfl, _⟩ := h
    rfl
  · obtain ⟨a, c, t, u, v, x, rfl, ha, hc, pr, hu, hx, b1, b2, b3, b4, q⟩ := h
    refine ⟨_, (pss_one (ps_ret (pe_cal c_lowest hr (pa_cons (pe_op op_add (pe_op op_mulW (pe_ix ix_tup (pv 0) pe_int (fun _ _ => rfl)) (pe_ix ix_tup (pv 1) pe_int (fun _ _ => rfl))) (pe_op op_mulW (pe_ix ix_tup (pv 1) pe_int (fun _ _ => rfl)) (pe_ix ix_tup (pv 0) pe_int (fun _ _ => rfl)))) (pa_cons (pe_op op_mulW (pe_ix ix_tup (pv 0) pe_int (fun _ _ => rfl)) (pe_ix ix_tup (pv 1) pe_int (fun _ _ => rfl))) pa_nil))))), ?_⟩
    have nz : u * x ≠ 0 := Int.mul_ne_zero (by omega) (by omega)
    refine ⟨_, rfl, a, _, 0, .int t, rfl, rfl, ha, a0, _, rfl, c, _, 1, .int x, rfl, rfl, hc, a1, _, _, rfl, rfl, wide_mul b1 b4 (by decide) (by decide) (by decide), _, rfl, c, _, 0, .int v, rfl, rfl, hc, a0, _, rfl, a, _, 1, .int u, rfl, rfl, ha, a1, _, _, rfl, rfl, wide_mul b3 b2 (by decide) (by decide) (by decide), _, _, rfl, rfl, _, rfl, a, _, 1, .int u, rfl, rfl, ha, a1, _, rfl, c, _, 1, .int x, rfl, rfl, hc, a1, _, _, rfl, rfl, wide_mul b2 b4 (by decide) (by decide) (by decide), _, _, rfl, nz, ?_, q⟩
    exact Nat.lt_of_lt_of_le (wide_lt b2 b4) (Nat.pow_le_pow_right (by decide) (by decide))
theorem sc_times : FnScope ["one", "other"] ["one", "other"] (defScope s_times) := ⟨rfl, rfl, rfl, by decide +kernel, rfl, by decide +kernel, by decide +kernel⟩
theorem ok_times {f : Addr} {fd : FuncData} (F : Fun K "times" "times" s_times f fd) (c_lowest : Cal P w K mg base 2 "lowest" ["top", "bottom"] spLow) : FnOk P w K mg base CX0 3 f fd ["one", "other"] (spTwo K (fun t u v x => True) (fun t u v x => t * v) (fun t u v x => u * x)) := by
  refine F.ok sc_times (fun vs H Q E h => ?_) (fun cdv A outer s H vs Q E hr h => ?_)
  · obtain ⟨a, c, t, u, v, x, rfl, _⟩ := h
    rfl
  · obtain ⟨a, c, t, u, v, x, rfl, ha, hc, pr, hu, hx, b1, b2, b3, b4, q⟩ := h
    refine ⟨_, (pss_one (ps_ret (pe_cal c_lowest hr (pa_cons (pe_op op_mulW (pe_ix ix_tup (pv 0) pe_int (fun _ _ => rfl)) (pe_ix ix_tup (pv 1) pe_int (fun _ _ => rfl))) (pa_cons (pe_op op_mulW (pe_ix ix_tup (pv 0) pe_int (fun _ _ => rfl)) (pe_ix ix_tup (pv 1) pe_int (fun _ _ => rfl))) pa_nil))))), ?_⟩
    have nz : u * x ≠ 0 := Int.mul_ne_zero (by omega) (by omega)
    refine ⟨_, rfl, a, _, 0, .int t, rfl, rfl, ha, a0, _, rfl, c, _, 0, .int v, rfl, rfl, hc, a0, _, _, rfl, rfl, wide_mul b1 b3 (by decide) (by decide) (by decide), _, rfl, a, _, 1, .int u, rfl, rfl, ha, a1, _, rfl, c, _, 1, .int x, rfl, rfl, hc, a1, _, _, rfl, rfl, wide_mul b2 b4 (by decide) (by decide) (by decide), _, _, rfl, nz, ?_, q⟩
    exact Nat.lt_of_lt_of_le (wide_lt b2 b4) (Nat.pow_le_pow_right (by decide) (by decide))
theorem sc_is_fraction : FnScope ["thing", "top", "bottom"] ["thing"] (defScope s_is_fraction) := ⟨rfl, rfl, rfl, by decide +kernel, rfl, by decide +kernel, by decide +kernel⟩
theorem ok_is_fraction {f : Addr} {fd : FuncData} (F : Fun K "is_fraction" "is_fraction" s_is_fraction f fd) (z : Zs mg) (c_is_whole : Cal P w K mg base 1 "is_whole" ["thing"] (spWhole K)) (c_shared_divisor : Cal P w K mg base 1 "shared_divisor" ["top", "bottom"] spShared) : FnOk P w K mg base CX0 2 f fd ["thing"] spIsFrac := by
  refine F.ok sc_is_fraction (fun vs H Q E h => ?_) (fun cdv A outer s H vs Q E hr h => ?_)
  · obtain ⟨a, t, u, rfl, _⟩ := h
    rfl
  · obtain ⟨a, t, u, rfl, ha, hu, q⟩ := h
    refine ⟨_, (pss_cons (ps_if (PW.pt (pw_or (pt_not (pt_val (pe_callB call_isi (by rfl) z.isinstance (by decide +kernel) (pa_cons (pv 0) (pa_cons (pe_bltn (v := .ty "tuple") (by rfl) z.tuple (by decide +kernel) rfl) pa_nil))))) (pw_or1 (pt_cmpR op_ne (pe_callB call_len_seq (by rfl) z.len PySem.boot_len (pa_cons (pv 0) pa_nil)) pe_int (nomark _))))) (pss_one (ps_ret pe_bl)) pss_nil)
      (pss_cons (ps_asg (pv 0) (pg_tup (by rfl) (pgs_cons (pg_name (i := 1) sc_is_fraction.nd rfl (.inl rfl)) (pgs_cons (pg_name (i := 2) sc_is_fraction.nd rfl (.inl rfl)) pgs_nil))))
      (pss_cons (ps_if (PW.pt (pw_or (pt_not (pt_val (pe_cal c_is_whole hr (pa_cons (pv 1) pa_nil)))) (pw_or (pt_not (pt_val (pe_cal c_is_whole hr (pa_cons (pv 2) pa_nil)))) (pw_or1 (pt_cmpR op_lt (pv 2) pe_int (nomark _)))))) (pss_one (ps_ret pe_bl)) pss_nil)
      (pss_one (ps_ret (pe_cmpR op_eq (pe_cal c_shared_divisor hr (pa_cons (pv 1) (pa_cons (pv 2) pa_nil))) pe_int (nomark _))))))), ?_⟩
    refine ⟨_, rfl, _, .ty "tuple", _, _, true, rfl, .ty _, .base (.tup ha), kit_ty (by decide +kernel), _, rfl, iteF ⟨_, rfl, a, _, rfl, .inr (SqT.of ha), rfl, _, rfl, iteF ?_⟩⟩
    refine ⟨_, rfl, a, _, rfl, SqT.of ha, rfl, _, _, rfl, _, _, rfl, rfl, ?_⟩
    refine ⟨_, rfl, _, _, rfl, .int t, _, rfl, iteF ⟨_, rfl, _, _, rfl, .int u, _, rfl, iteF ⟨_, rfl, _, _, rfl, rfl, _, rfl, ite2 (fun c => ?_) (fun c => ?_)⟩⟩⟩
    · have := toB c
      omega
    · refine ⟨_, rfl, _, rfl, t, u, rfl, by omega, rfl, ?_⟩
      have e : (decide (V.int (gI t u) = V.int 1)) = decide (gI t u = 1) := by
        by_cases h : gI t u = 1
        · rw [h]
          rfl
        · rw [decide_eq_false h, decide_eq_false (fun z => h (V.int.inj z))]
      rw [e]
      exact q
end
end E1

namespace E1
open PySem PySem.Spec PyProof.Rows L2
/-! ### sums and convolutions of fractions -/
def sg (f : Nat → Rat) : Nat → Rat
  | 0 => 0
  | n + 1 => sg f n + f n
theorem sg_congr {f g : Nat → Rat} : ∀ n, (∀ i, i < n → f i = g i) → sg f n = sg g n
  | 0, _ => rfl
  | n + 1, h => by
    show sg f n + f n = sg g n + g n
    rw [sg_congr n fun i hi => h i (by omega), h n (by omega)]
theorem sg_zero {f : Nat → Rat} (n : Nat) (h : ∀ i, i < n → f i = 0) : sg f n = 0 := by
  induction n with
  | zero => rfl
  | succ n ih =>
    show sg f n + f n = 0
    rw [ih fun i hi => h i (by omega), h n (by omega)]
    grind
theorem sg_first (f : Nat → Rat) : ∀ n, sg f (n + 1) = f 0 + sg (fun i => f (i + 1)) n
  | 0 => by
    show 0 + f 0 = f 0 + 0
    grind
  | n + 1 => by
    show sg f (n + 1) + f (n + 1) = f 0 + (sg (fun i => f (i + 1)) n + f (n + 1))
    rw [sg_first f n]
    grind
theorem sg_mul (c : Rat) (f : Nat → Rat) : ∀ n, sg (fun i => c * f i) n = c * sg f n
  | 0 => by
    show (0 : Rat) = c * 0
    grind
  | n + 1 => by
    show sg (fun i => c * f i) n + c * f n = c * (sg f n + f n)
    rw [sg_mul c f n]
    grind
theorem sg_add (f g : Nat → Rat) : ∀ n, sg (fun i => f i + g i) n = sg f n + sg g n
  | 0 => by
    show (0 : Rat) = 0 + 0
    grind
  | n + 1 => by
    show sg (fun i => f i + g i) n + (f n + g n) = sg f n + f n + (sg g n + g n)
    rw [sg_add f g n]
    grind
/-- the place m of the product -/
def cv (f g : Nat → Rat) (m : Nat) : Rat := sg (fun i => f i * g (m - i)) (m + 1)
theorem cv_zero (f g : Nat → Rat) : cv f g 0 = f 0 * g 0 := by
  show 0 + f 0 * g 0 = f 0 * g 0
  grind
theorem cv_succ (f g : Nat → Rat) (m : Nat) : cv f g (m + 1) = f 0 * g (m + 1) + cv (fun i => f (i + 1)) g m := by
  unfold cv
  rw [sg_first]
  congr 1
  apply sg_congr
  intro i hi
  show f (i + 1) * g (m + 1 - (i + 1)) = f (i + 1) * g (m - i)
  rw [show m + 1 - (i + 1) = m - i by omega]
theorem cv_congr {f f' g g' : Nat → Rat} {m : Nat} (h1 : ∀ i, i ≤ m → f i = f' i) (h2 : ∀ i, i ≤ m → g i = g' i) : cv f g m = cv f' g' m := by
  unfold cv
  apply sg_congr
  intro i hi
  rw [h1 i (by omega), h2 (m - i) (by omega)]
theorem cv_lin (f g h : Nat → Rat) (c : Rat) (m : Nat) : cv f (fun i => c * g i + h i) m = c * cv f g m + cv f h m := by
  unfold cv
  rw [← sg_mul, ← sg_add]
  apply sg_congr
  intro i _
  grind
theorem cv_sub (f g h : Nat → Rat) (m : Nat) : cv f (fun i => g i - h i) m = cv f g m - cv f h m := by
  have e := cv_lin f h (fun i => g i - h i) 1 m
  have e2 : (fun i => 1 * h i + (g i - h i)) = g := by
    funext i
    grind
  rw [e2] at e
  grind
/-- the row moved on by one -/
def sh (u : Nat → Rat) : Nat → Rat
  | 0 => 0
  | n + 1 => u n
theorem cv_sh (f u : Nat → Rat) (m : Nat) : cv f (sh u) (m + 1) = cv f u m := by
  unfold cv
  show sg (fun i => f i * sh u (m + 1 - i)) (m + 1) + f (m + 1) * sh u (m + 1 - (m + 1)) = _
  rw [Nat.sub_self]
  show _ + f (m + 1) * 0 = _
  have e : sg (fun i => f i * sh u (m + 1 - i)) (m + 1) = sg (fun i => f i * u (m - i)) (m + 1) := by
    apply sg_congr
    intro i hi
    rw [show m + 1 - i = (m - i) + 1 by omega]
    rfl
  rw [e]
  grind
theorem cv_sh0 (f u : Nat → Rat) : cv f (sh u) 0 = 0 := by
  rw [cv_zero]
  show f 0 * 0 = 0
  grind
theorem cv_swap : ∀ (m : Nat) (f g h : Nat → Rat), cv f (cv g h) m = cv g (cv f h) m
  | 0, f, g, h => by
    rw [cv_zero, cv_zero, cv_zero, cv_zero]
    grind
  | m + 1, f, g, h => by
    have split : ∀ f g : Nat → Rat, cv f (cv g h) (m + 1) = f 0 * (g 0 * h (m + 1)) + f 0 * cv (fun i => g (i + 1)) h m + cv (fun i => f (i + 1)) (cv g h) m := fun f g => by
      rw [cv_succ, cv_succ]
      grind
    have inner : ∀ g : Nat → Rat, cv g h = fun i => g 0 * h i + sh (cv (fun i => g (i + 1)) h) i := fun g => by
      funext i
      cases i with
      | zero =>
        rw [cv_zero]
        show g 0 * h 0 = g 0 * h 0 + 0
        grind
      | succ i => exact cv_succ g h i
    rw [split f g, split g f]
    rw [cv_swap m (fun i => f (i + 1)) g h]
    have e1 : cv (fun i => g (i + 1)) (cv f h) m = f 0 * cv (fun i => g (i + 1)) h m + cv (fun i => g (i + 1)) (sh (cv (fun i => f (i + 1)) h)) m := by
      rw [inner f, cv_lin]
    rw [e1]
    cases m with
    | zero =>
      rw [cv_sh0, cv_zero, cv_zero]
      grind
    | succ m =>
      rw [cv_sh, cv_succ g]
      grind
/-- what vanishes ahead of k -/
theorem cv_low {f g : Nat → Rat} {k m : Nat} (h : ∀ i, i < k → g i = 0) (hm : m ≤ k) : cv f g m = if m = k then f 0 * g k else 0 := by
  cases m with
  | zero =>
    rw [cv_zero]
    split
    · next e => rw [e]
    · rw [h 0 (by omega)]
      grind
  | succ m =>
    rw [cv_succ]
    have z : cv (fun i => f (i + 1)) g m = 0 := by
      unfold cv
      apply sg_zero
      intro i hi
      rw [h (m - i) (by omega)]
      grind
    rw [z]
    split
    · next e =>
      rw [e]
      grind
    · rw [h (m + 1) (by omega)]
      grind
/-- two responses part just where the products do -/
theorem part_at {b t h b' t' h' : Nat → Rat} {n : Nat} (r : ∀ m, m ≤ n → cv b h m = t m) (r' : ∀ m, m ≤ n → cv b' h' m = t' m) (b0 : b 0 ≠ 0) (b0' : b' 0 ≠ 0) :
    ∀ k, k ≤ n → (∀ i, i < k → cv b' t i = cv b t' i) → (∀ i, i < k → h i = h' i) ∧ (h k = h' k ↔ cv b' t k = cv b t' k) := by
  have key : ∀ k, k ≤ n → (∀ i, i < k → h i = h' i) → cv b' t k - cv b t' k = b 0 * b' 0 * (h k - h' k) := fun k hk hh => by
    have e1 : cv b' t k = cv b' (cv b h) k := cv_congr (fun _ _ => rfl) fun i hi => (r i (by omega)).symm
    have e2 : cv b t' k = cv b (cv b' h') k := cv_congr (fun _ _ => rfl) fun i hi => (r' i (by omega)).symm
    rw [e1, e2, cv_swap k b' b h, ← cv_sub]
    have e3 : ∀ m, m ≤ k → cv b' h m - cv b' h' m = if m = k then b' 0 * (h k - h' k) else 0 := fun m hm => by
      rw [← cv_sub, cv_low (k := k) (fun i hi => by show h i - h' i = 0; rw [hh i hi]; grind) hm]
    rw [cv_low (k := k) (fun i hi => by rw [e3 i (by omega), if_neg (by omega)]) (Nat.le_refl k), if_pos rfl, e3 k (Nat.le_refl k), if_pos rfl]
    grind
  intro k
  induction k with
  | zero =>
    intro hk _
    refine ⟨fun i hi => absurd hi (by omega), ?_⟩
    have e := key 0 hk (fun i hi => absurd hi (by omega))
    constructor
    · intro z
      rw [z] at e
      grind
    · intro z
      rw [z] at e
      grind
  | succ k ih =>
    intro hk hh
    obtain ⟨i1, i2⟩ := ih (by omega) fun i hi => hh i (by omega)
    have all : ∀ i, i < k + 1 → h i = h' i := fun i hi => by
      by_cases c : i < k
      · exact i1 i c
      · rw [show i = k by omega]
        exact i2.mpr (hh k (by omega))
    refine ⟨all, ?_⟩
    have e := key (k + 1) hk all
    constructor
    · intro z
      rw [z] at e
      grind
    · intro z
      rw [z] at e
      grind
/-! ### lists of fractions -/
def fn (qs : List Rat) (i : Nat) : Rat := qs.getD i 0
def sumR : List Rat → Rat
  | [] => 0
  | x :: xs => x + sumR xs
def dotR : List Rat → List Rat → Rat
  | x :: xs, y :: ys => x * y + dotR xs ys
  | _, _ => 0
theorem sumR_append : ∀ xs ys : List Rat, sumR (xs ++ ys) = sumR xs + sumR ys
  | [], ys => by
    show sumR ys = 0 + sumR ys
    grind
  | x :: xs, ys => by
    show x + sumR (xs ++ ys) = x + sumR xs + sumR ys
    rw [sumR_append xs ys]
    grind
theorem fn_lt {qs : List Rat} {i : Nat} {q : Rat} (h : qs[i]? = some q) : fn qs i = q := by
  unfold fn
  rw [List.getD_eq_getElem?_getD, h]
  rfl
theorem fn_ge {qs : List Rat} {i : Nat} (h : qs.length ≤ i) : fn qs i = 0 := by
  unfold fn
  rw [List.getD_eq_getElem?_getD, List.getElem?_eq_none h]
  rfl
/-- a sum over the first n places -/
theorem sum_map (f : Nat → Rat) : ∀ n, sumR ((List.range n).map f) = sg f n
  | 0 => rfl
  | n + 1 => by
    rw [List.range_succ, List.map_append, sumR_append, sum_map f n]
    show sg f n + (f n + 0) = sg f n + f n
    grind
theorem sum_filter (f : Nat → Rat) (p : Nat → Bool) : ∀ n, sumR (((List.range n).filter p).map f) = sg (fun i => if p i = true then f i else 0) n
  | 0 => rfl
  | n + 1 => by
    rw [List.range_succ, List.filter_append, List.map_append, sumR_append, sum_filter f p n]
    show _ = sg (fun i => if p i = true then f i else 0) n + (if p n = true then f n else 0)
    congr 1
    by_cases c : p n = true
    · rw [if_pos c, List.filter_cons, if_pos c]
      show f n + 0 = f n
      grind
    · rw [if_neg c, List.filter_cons, if_neg c]
      rfl
theorem sg_more (f : Nat → Rat) (n : Nat) : ∀ m, (∀ i, n ≤ i → i < n + m → f i = 0) → sg f (n + m) = sg f n
  | 0, _ => rfl
  | m + 1, h => by
    show sg f (n + m) + f (n + m) = sg f n
    rw [sg_more f n m fun i h1 h2 => h i h1 (by omega), h (n + m) (by omega) (by omega)]
    grind
theorem sg_upto (f : Nat → Rat) {n m : Nat} (h : ∀ i, (n ≤ i ∨ m ≤ i) → f i = 0) : sg f n = sg f m := by
  by_cases c : n ≤ m
  · have e := sg_more f n (m - n) (fun i h1 _ => h i (.inl h1))
    rw [show n + (m - n) = m by omega] at e
    exact e.symm
  · have e := sg_more f m (n - m) (fun i h1 _ => h i (.inr h1))
    rw [show m + (n - m) = n by omega] at e
    exact e
/-- the law's own sum of a place -/
theorem law_place (xs ys : List Rat) (k : Nat) : sumR (((List.range xs.length).filter fun j => decide (j ≤ k ∧ k < j + ys.length)).map fun j => fn xs j * fn ys (k - j)) = cv (fn xs) (fn ys) k := by
  rw [sum_filter]
  unfold cv
  have e1 : sg (fun i => if decide (i ≤ k ∧ k < i + ys.length) = true then fn xs i * fn ys (k - i) else 0) xs.length = sg (fun i => if decide (i ≤ k ∧ k < i + ys.length) = true then fn xs i * fn ys (k - i) else 0) (k + 1) := by
    apply sg_upto
    intro i hi
    show (if decide (i ≤ k ∧ k < i + ys.length) = true then fn xs i * fn ys (k - i) else 0) = 0
    rcases hi with h | h
    · rw [fn_ge h]
      split
      · grind
      · rfl
    · rw [if_neg (by rw [decide_eq_true_eq]; omega)]
  rw [e1]
  apply sg_congr
  intro i hi
  show (if decide (i ≤ k ∧ k < i + ys.length) = true then fn xs i * fn ys (k - i) else 0) = fn xs i * fn ys (k - i)
  by_cases c : k < i + ys.length
  · rw [if_pos (by rw [decide_eq_true_eq]; omega)]
  · rw [if_neg (by rw [decide_eq_true_eq]; omega), fn_ge (qs := ys) (by omega)]
    grind
/-- two lists place by place -/
theorem dot_map (f g : Nat → Rat) (n : Nat) : ∀ m, dotR ((List.range' n m).map f) ((List.range' n m).map g) = sg (fun i => f (n + i) * g (n + i)) m := by
  intro m
  induction m generalizing n with
  | zero => rfl
  | succ m ih =>
    rw [List.range'_succ, List.map_cons, List.map_cons]
    show f n * g n + dotR ((List.range' (n + 1) m).map f) ((List.range' (n + 1) m).map g) = _
    rw [ih (n + 1), sg_first]
    congr 1
    apply sg_congr
    intro i _
    rw [show n + 1 + i = n + (i + 1) by omega]
theorem drop_range {xs : List Rat} {n m : Nat} (h : n + m ≤ xs.length) : (xs.drop n).take m = (List.range' n m).map (fn xs) := by
  apply List.ext_getElem?
  intro i
  rw [List.getElem?_take, List.getElem?_drop, List.getElem?_map]
  by_cases c : i < m
  · rw [if_pos c, List.getElem?_range' c, List.getElem?_eq_getElem (show n + i < xs.length by omega)]
    show _ = some (fn xs (n + 1 * i))
    rw [Nat.one_mul, fn_lt (List.getElem?_eq_getElem (show n + i < xs.length by omega))]
  · rw [if_neg c, List.getElem?_eq_none (by rw [List.length_range']; omega)]
    rfl
/-- the program's own sum of a place -/
theorem prog_place (xs ys : List Rat) (k : Nat) {f m : Nat} (hf : f = k + 1 - ys.length) (hm : m = min (k + 1) xs.length - f) : dotR ((List.range' f m).map (fn xs)) ((List.range' f m).map fun j => fn ys (k - j)) = cv (fn xs) (fn ys) k := by
  rw [dot_map]
  unfold cv
  have low : sg (fun i => fn xs i * fn ys (k - i)) f = 0 := sg_zero f fun i hi => by
    rw [fn_ge (qs := ys) (by omega)]
    grind
  have cut : ∀ m, sg (fun i => fn xs i * fn ys (k - i)) (f + m) = sg (fun i => fn xs (f + i) * fn ys (k - (f + i))) m := by
    intro m
    induction m with
    | zero => exact low
    | succ m ih =>
      show sg (fun i => fn xs i * fn ys (k - i)) (f + m) + fn xs (f + m) * fn ys (k - (f + m)) = sg (fun i => fn xs (f + i) * fn ys (k - (f + i))) m + fn xs (f + m) * fn ys (k - (f + m))
      rw [ih]
  rw [← cut m]
  by_cases c : k + 1 ≤ xs.length
  · by_cases c2 : f ≤ k + 1
    · rw [show f + m = k + 1 by omega]
    · omega
  · by_cases c2 : f ≤ xs.length
    · rw [show f + m = xs.length by omega]
      have := sg_more (fun i => fn xs i * fn ys (k - i)) xs.length (k + 1 - xs.length) fun i h1 _ => by
        show fn xs i * fn ys (k - i) = 0
        rw [fn_ge h1]
        grind
      rw [show xs.length + (k + 1 - xs.length) = k + 1 by omega] at this
      exact this.symm
    · have m0 : m = 0 := by omega
      rw [m0, Nat.add_zero, low]
      symm
      apply sg_zero
      intro i hi
      show fn xs i * fn ys (k - i) = 0
      by_cases c3 : i < xs.length
      · rw [fn_ge (qs := ys) (by omega)]
        grind
      · rw [fn_ge (qs := xs) (by omega)]
        grind
/-! ### the response -/
/-- the next place behind the row -/
def nxt (t b row : List Rat) : Rat := (fn t row.length - dotR b.tail row.reverse) / fn b 0
def quo (t b : List Rat) : Nat → List Rat
  | 0 => []
  | n + 1 => quo t b n ++ [nxt t b (quo t b n)]
theorem quo_len (t b : List Rat) : ∀ n, (quo t b n).length = n
  | 0 => rfl
  | n + 1 => by
    show (quo t b n ++ [nxt t b (quo t b n)]).length = n + 1
    rw [List.length_append, quo_len t b n]
    rfl
theorem dot_sg : ∀ xs ys : List Rat, dotR xs ys = sg (fun i => fn xs i * fn ys i) ys.length
  | [], ys => by
    symm
    show sg _ _ = 0
    apply sg_zero
    intro i _
    rw [fn_ge (Nat.zero_le _)]
    grind
  | x :: xs, [] => rfl
  | x :: xs, y :: ys => by
    show x * y + dotR xs ys = sg _ (ys.length + 1)
    rw [sg_first, dot_sg xs ys]
    rfl
theorem fn_tail (b : List Rat) (i : Nat) : fn b.tail i = fn b (i + 1) := by
  cases b with
  | nil => rfl
  | cons x xs => rfl
theorem fn_rev (row : List Rat) {i : Nat} (h : i < row.length) : fn row.reverse i = fn row (row.length - 1 - i) := by
  unfold fn
  rw [List.getD_eq_getElem?_getD, List.getD_eq_getElem?_getD, List.getElem?_reverse h]
theorem quo_fn (t b : List Rat) {i : Nat} : ∀ {n m : Nat}, i < n → n ≤ m → fn (quo t b m) i = fn (quo t b n) i := by
  intro n m h1 h2
  induction m with
  | zero => omega
  | succ m ih =>
    by_cases c : n ≤ m
    · rw [← ih c]
      show fn (quo t b m ++ [_]) i = _
      unfold fn
      rw [List.getD_eq_getElem?_getD, List.getD_eq_getElem?_getD, List.getElem?_append_left (by rw [quo_len]; omega)]
    · rw [show n = m + 1 by omega]
theorem quo_ok (t b : List Rat) (b0 : fn b 0 ≠ 0) (n k : Nat) (h : k < n) : cv (fn b) (fn (quo t b n)) k = fn t k := by
  have e0 : cv (fn b) (fn (quo t b n)) k = cv (fn b) (fn (quo t b (k + 1))) k := cv_congr (fun _ _ => rfl) fun i hi => quo_fn t b (show i < k + 1 by omega) (by omega)
  rw [e0]
  have last : fn (quo t b (k + 1)) k = nxt t b (quo t b k) := by
    show fn (quo t b k ++ [nxt t b (quo t b k)]) k = _
    apply fn_lt
    rw [List.getElem?_append_right (by rw [quo_len]; exact Nat.le_refl _), quo_len, Nat.sub_self]
    rfl
  have den : fn b 0 * nxt t b (quo t b k) = fn t k - dotR b.tail (quo t b k).reverse := by
    unfold nxt
    rw [quo_len]
    grind
  unfold cv
  rw [sg_first]
  show fn b 0 * fn (quo t b (k + 1)) (k - 0) + _ = _
  rw [Nat.sub_zero, last, den, dot_sg, List.length_reverse, quo_len]
  have e : sg (fun i => fn b (i + 1) * fn (quo t b (k + 1)) (k - (i + 1))) k = sg (fun i => fn b.tail i * fn (quo t b k).reverse i) k := by
    apply sg_congr
    intro i hi
    rw [fn_tail, fn_rev _ (by rw [quo_len]; exact hi), quo_len, show k - (i + 1) = k - 1 - i by omega]
    rw [quo_fn t b (n := k) (m := k + 1) (by omega) (by omega)]
  rw [e]
  grind
/-! ### fractions in lowest terms -/
theorem lowT_num {t b : Int} (hb : b ≠ 0) : lowT t b = (Rat.divInt t b).num := by
  rw [Rat.num_divInt]
  unfold lowT gI
  rw [Int.gcd_comm b t]
  split
  · next h =>
    rw [Int.sign_eq_neg_one_of_neg h, Int.neg_mul, Int.one_mul]
  · next h =>
    rw [Int.sign_eq_one_of_pos (by omega), Int.one_mul]
theorem lowB_den {t b : Int} (hb : b ≠ 0) : lowB t b = ((Rat.divInt t b).den : Int) := by
  rw [Rat.den_divInt, if_neg hb]
  unfold lowB gI
  rw [Int.gcd_comm b t, Int.natCast_ediv]
  congr 1
  split <;> omega
theorem den_ne (q : Rat) : (q.den : Int) ≠ 0 := by
  have := q.den_pos
  omega
theorem den_ge (q : Rat) : (0 : Int) < q.den := by
  have := q.den_pos
  omega
theorem q_eq (q : Rat) : q * (q.den : Int) = (q.num : Rat) := by
  have h := Rat.num_divInt_den q
  rw [Rat.divInt_eq_div] at h
  have d : ((q.den : Int) : Rat) ≠ 0 := by
    intro z
    have : (q.den : Int) = 0 := by exact_mod_cast z
    exact den_ne q this
  grind
theorem cast_ne {n : Int} (h : n ≠ 0) : (n : Rat) ≠ 0 := fun z => h (by exact_mod_cast z)
theorem div_q {t b : Int} (h : b ≠ 0) : Rat.divInt t b * (b : Rat) = (t : Rat) := by
  rw [Rat.divInt_eq_div]
  have := cast_ne h
  grind
theorem div_is {t b : Int} (h : b ≠ 0) {q : Rat} (e : q * (b : Rat) = (t : Rat)) : Rat.divInt t b = q := by
  have := div_q (t := t) h
  have := cast_ne h
  grind
theorem minus_q (q r : Rat) : Rat.divInt (q.num * r.den - r.num * q.den) (q.den * r.den) = q - r := by
  apply div_is (Int.mul_ne_zero (den_ne q) (den_ne r))
  have a := q_eq q
  have b := q_eq r
  push_cast at *
  grind
theorem times_q (q r : Rat) : Rat.divInt (q.num * r.num) (q.den * r.den) = q * r := by
  apply div_is (Int.mul_ne_zero (den_ne q) (den_ne r))
  have a := q_eq q
  have b := q_eq r
  push_cast at *
  grind
theorem num_ne {q : Rat} (h : q ≠ 0) : q.num ≠ 0 := fun z => by
  have a := q_eq q
  rw [z] at a
  have d := cast_ne (den_ne q)
  have : ((0 : Int) : Rat) = 0 := rfl
  grind
theorem num_eq {q : Rat} (h : q.num = 0) : q = 0 := by
  by_cases c : q = 0
  · exact c
  · exact absurd h (num_ne c)
theorem divided_q (q r : Rat) (h : r ≠ 0) : Rat.divInt (q.num * r.den) (q.den * r.num) = q / r := by
  apply div_is (Int.mul_ne_zero (den_ne q) (num_ne h))
  have a := q_eq q
  have b := q_eq r
  have d1 := cast_ne (den_ne q)
  have d2 := cast_ne (den_ne r)
  push_cast at *
  grind
theorem q_gcd (q : Rat) : gI q.num q.den = 1 := by
  have := q.reduced
  unfold gI
  show ((Nat.gcd q.num.natAbs (q.den : Int).natAbs : Nat) : Int) = 1
  rw [Int.natAbs_natCast, this]
  rfl
/-! ### sizes -/
def Sc (D : Int) (B : Nat) (q : Rat) : Prop := ∃ n : Int, q * (D : Rat) = (n : Rat) ∧ n.natAbs ≤ B
theorem Sc.cross {D : Int} {B : Nat} {q : Rat} (h : Sc D B q) : ∃ n : Int, q.num * D = n * q.den ∧ n.natAbs ≤ B := by
  obtain ⟨n, e, b⟩ := h
  refine ⟨n, ?_, b⟩
  have a := q_eq q
  have : ((q.num * D : Int) : Rat) = ((n * q.den : Int) : Rat) := by
    push_cast
    push_cast at a
    grind
  exact_mod_cast this
theorem Sc.den {D : Int} {B : Nat} {q : Rat} (h : Sc D B q) : (q.den : Int) ∣ D := by
  obtain ⟨n, e, _⟩ := h.cross
  have d : q.den ∣ q.num.natAbs * D.natAbs := by
    have e2 := congrArg Int.natAbs e
    rw [Int.natAbs_mul, Int.natAbs_mul, Int.natAbs_natCast] at e2
    exact ⟨n.natAbs, by rw [e2, Nat.mul_comm]⟩
  have g : Nat.Coprime q.den q.num.natAbs := Nat.Coprime.symm q.reduced
  have := g.dvd_of_dvd_mul_left d
  exact Int.dvd_natAbs.mp (by exact_mod_cast this)
theorem Sc.num {D : Int} {B : Nat} {q : Rat} (h : Sc D B q) (hD : D ≠ 0) : q.num.natAbs ≤ B := by
  have dv := h.den
  obtain ⟨n, e, b⟩ := h.cross
  have l : q.den ≤ D.natAbs := by
    have : (q.den : Int).natAbs ∣ D.natAbs := Int.natAbs_dvd_natAbs.mpr dv
    rw [Int.natAbs_natCast] at this
    exact Nat.le_of_dvd (by omega) this
  have e2 := congrArg Int.natAbs e
  rw [Int.natAbs_mul, Int.natAbs_mul, Int.natAbs_natCast] at e2
  have h1 : q.num.natAbs * D.natAbs ≤ n.natAbs * D.natAbs := by
    rw [e2]
    exact Nat.mul_le_mul_left _ l
  exact Nat.le_trans (Nat.le_of_mul_le_mul_right h1 (by omega)) b
theorem Sc.mono {D : Int} {B C : Nat} {q : Rat} (h : Sc D B q) (l : B ≤ C) : Sc D C q := by
  obtain ⟨n, e, b⟩ := h
  exact ⟨n, e, by omega⟩
theorem Sc.scale {D k : Int} {B : Nat} {q : Rat} (h : Sc D B q) : Sc (D * k) (B * k.natAbs) q := by
  obtain ⟨n, e, b⟩ := h
  refine ⟨n * k, ?_, ?_⟩
  · push_cast
    grind
  · rw [Int.natAbs_mul]
    exact Nat.mul_le_mul_right _ b
theorem Sc.add {D : Int} {B C : Nat} {q r : Rat} (h : Sc D B q) (g : Sc D C r) : Sc D (B + C) (q + r) := by
  obtain ⟨n, e, b⟩ := h
  obtain ⟨m, f, c⟩ := g
  refine ⟨n + m, ?_, by omega⟩
  push_cast
  grind
theorem Sc.mul {D E : Int} {B C : Nat} {q r : Rat} (h : Sc D B q) (g : Sc E C r) : Sc (D * E) (B * C) (q * r) := by
  obtain ⟨n, e, b⟩ := h
  obtain ⟨m, f, c⟩ := g
  refine ⟨n * m, ?_, by rw [Int.natAbs_mul]; exact Nat.mul_le_mul b c⟩
  push_cast
  grind
theorem Sc.zero {D : Int} {B : Nat} : Sc D B 0 := ⟨0, by push_cast; grind, Nat.zero_le _⟩
/-- the step of a response, with whole numbers -/
theorem horner {D β0 : Int} {B C : Nat} (hB : β0.natAbs ≤ B) (hC : 6 * B ≤ C) : ∀ (bs hs : List Rat) (k : Nat), (∀ b ∈ bs, Sc D B b) → (∀ i q, hs[i]? = some q → i < k ∧ Sc (β0 ^ (k - i)) (C ^ (k - i)) q) →
    ∃ S : Int, dotR bs hs * (D : Rat) * ((β0 ^ k : Int) : Rat) = (S : Rat) ∧ 5 * S.natAbs ≤ C ^ (k + 1)
  | [], hs, k, _, _ => ⟨0, by show (0 : Rat) * _ * _ = _; push_cast; grind, by simp⟩
  | b :: bs, [], k, _, _ => ⟨0, by show (0 : Rat) * _ * _ = _; push_cast; grind, by simp⟩
  | b :: bs, h :: hs, k, h1, h2 => by
    obtain ⟨k0, m, em, bm⟩ := h2 0 h rfl
    obtain ⟨j, rfl⟩ : ∃ j, k = j + 1 := ⟨k - 1, by omega⟩
    obtain ⟨S, eS, bS⟩ := horner hB hC bs hs j (fun x hx => h1 x (List.mem_cons_of_mem _ hx)) fun i q hq => by
      obtain ⟨l1, l2⟩ := h2 (i + 1) q hq
      rw [show j + 1 - (i + 1) = j - i by omega] at l2
      exact ⟨by omega, l2⟩
    obtain ⟨n, en, bn⟩ := h1 b List.mem_cons_self
    refine ⟨n * m + β0 * S, ?_, ?_⟩
    · show (b * h + dotR bs hs) * (D : Rat) * ((β0 ^ (j + 1) : Int) : Rat) = _
      rw [Nat.sub_zero] at em
      have p : ((β0 ^ (j + 1) : Int) : Rat) = (β0 : Rat) * ((β0 ^ j : Int) : Rat) := by
        rw [Int.pow_succ]
        push_cast
        grind
      push_cast at *
      grind
    · rw [Nat.sub_zero] at bm
      have t1 : (n * m).natAbs ≤ B * C ^ (j + 1) := by
        rw [Int.natAbs_mul]
        exact Nat.mul_le_mul bn bm
      have t2 : (β0 * S).natAbs ≤ B * S.natAbs := by
        rw [Int.natAbs_mul]
        exact Nat.mul_le_mul_right _ hB
      have t3 := Int.natAbs_add_le (n * m) (β0 * S)
      have t4 : 5 * (B * S.natAbs) ≤ B * C ^ (j + 1) := by
        rw [show 5 * (B * S.natAbs) = B * (5 * S.natAbs) by rw [← Nat.mul_assoc, Nat.mul_comm 5 B, Nat.mul_assoc]]
        exact Nat.mul_le_mul_left _ bS
      have t5 : 6 * (B * C ^ (j + 1)) ≤ C ^ (j + 1 + 1) := by
        rw [← Nat.mul_assoc, Nat.pow_succ C (j + 1), Nat.mul_comm (C ^ (j + 1)) C]
        exact Nat.mul_le_mul_right _ hC
      omega
theorem nxt_sc {D β0 : Int} {B C : Nat} {t b row : List Rat} (hD : D ≠ 0) (h0 : fn b 0 * (D : Rat) = (β0 : Rat)) (hn : β0 ≠ 0) (hB : β0.natAbs ≤ B) (hC : 6 * B ≤ C) (hb : ∀ x ∈ b, Sc D B x) (ht : ∀ i, Sc D B (fn t i))
    (hr : ∀ i q, row[i]? = some q → Sc (β0 ^ (i + 1)) (C ^ (i + 1)) q) : Sc (β0 ^ (row.length + 1)) (C ^ (row.length + 1)) (nxt t b row) := by
  obtain ⟨S, eS, bS⟩ := horner hB hC b.tail row.reverse row.length (fun x hx => hb x (List.mem_of_mem_tail hx)) fun i q hq => by
    have li : i < row.length := by
      have := (List.getElem?_eq_some_iff.mp hq).1
      rw [List.length_reverse] at this
      exact this
    rw [List.getElem?_reverse li] at hq
    have := hr _ q hq
    rw [show row.length - 1 - i + 1 = row.length - i by omega] at this
    exact ⟨li, this⟩
  obtain ⟨τ, eτ, bτ⟩ := ht row.length
  refine ⟨τ * β0 ^ row.length - S, ?_, ?_⟩
  · unfold nxt
    have b0 : fn b 0 ≠ 0 := fun z => by
      rw [z] at h0
      have := cast_ne hn
      grind
    have p : ((β0 ^ (row.length + 1) : Int) : Rat) = (β0 : Rat) * ((β0 ^ row.length : Int) : Rat) := by
      rw [Int.pow_succ]
      push_cast
      grind
    rw [p]
    push_cast at *
    grind
  · have t1 : (τ * β0 ^ row.length).natAbs ≤ B * B ^ row.length := by
      rw [Int.natAbs_mul, Int.natAbs_pow]
      exact Nat.mul_le_mul bτ (Nat.pow_le_pow_left hB _)
    have t2 : 6 * (B * B ^ row.length) ≤ C ^ (row.length + 1) := by
      rw [← Nat.mul_assoc, Nat.pow_succ, Nat.mul_comm (C ^ row.length) C]
      exact Nat.mul_le_mul hC (Nat.pow_le_pow_left (by omega) _)
    have t3 := Int.natAbs_sub_le (τ * β0 ^ row.length) S
    omega
theorem quo_sc {D β0 : Int} {B C : Nat} {t b : List Rat} (hD : D ≠ 0) (h0 : fn b 0 * (D : Rat) = (β0 : Rat)) (hn : β0 ≠ 0) (hB : β0.natAbs ≤ B) (hC : 6 * B ≤ C) (hb : ∀ x ∈ b, Sc D B x) (ht : ∀ i, Sc D B (fn t i)) :
    ∀ n i q, (quo t b n)[i]? = some q → Sc (β0 ^ (i + 1)) (C ^ (i + 1)) q
  | 0, i, q, h => by
    have : ([] : List Rat)[i]? = some q := h
    cases this
  | n + 1, i, q, h => by
    have h' : (quo t b n ++ [nxt t b (quo t b n)])[i]? = some q := h
    by_cases c : i < n
    · rw [List.getElem?_append_left (by rw [quo_len]; exact c)] at h'
      exact quo_sc hD h0 hn hB hC hb ht n i q h'
    · have li := (List.getElem?_eq_some_iff.mp h').1
      rw [List.length_append, quo_len] at li
      have e : i = n := by
        have : i < n + 1 := li
        omega
      subst e
      rw [List.getElem?_append_right (by rw [quo_len]; exact Nat.le_refl _), quo_len, Nat.sub_self] at h'
      cases h'
      have := nxt_sc hD h0 hn hB hC hb ht (row := quo t b i) fun j r hr => quo_sc hD h0 hn hB hC hb ht i j r hr
      rw [quo_len] at this
      exact this
/-! ### one bottom for all -/
def lcmI (c b : Int) : Int := if c % b = 0 then c else c / gI c b * b
theorem gI_dl (c b : Int) : gI c b ∣ c := by
  unfold gI
  exact Int.gcd_dvd_left ..
theorem gI_dr (c b : Int) : gI c b ∣ b := by
  unfold gI
  exact Int.gcd_dvd_right ..
theorem lcmI_ok {c b : Int} (hc : 0 < c) (hb : 0 < b) : 0 < lcmI c b ∧ c ∣ lcmI c b ∧ b ∣ lcmI c b ∧ ∀ D, c ∣ D → b ∣ D → lcmI c b ∣ D := by
  unfold lcmI
  split
  · next h => exact ⟨hc, Int.dvd_refl c, Int.dvd_of_emod_eq_zero h, fun D h1 _ => h1⟩
  · have g0 := gI_pos (t := c) (b := b) (by omega)
    obtain ⟨x, hx⟩ := gI_dl c b
    obtain ⟨y, hy⟩ := gI_dr c b
    have cop : Nat.gcd x.natAbs y.natAbs = 1 := by
      have h := Int.gcd_mul_left (gI c b) x y
      rw [← hx, ← hy] at h
      have h2 : Int.gcd c b = (gI c b).natAbs := by
        unfold gI
        rw [Int.natAbs_natCast]
      rw [h2] at h
      have : (gI c b).natAbs * 1 = (gI c b).natAbs * Int.gcd x y := by
        rw [Nat.mul_one]
        exact h
      exact (Nat.eq_of_mul_eq_mul_left (by omega) this).symm
    generalize gI c b = g at *
    have ex : c / g = x := Int.ediv_eq_of_eq_mul_right (by omega) hx
    rw [ex]
    have x0 : 0 < x := by
      rcases Int.lt_trichotomy x 0 with z | z | z
      · have := Int.mul_neg_of_pos_of_neg g0 z
        omega
      · rw [z, Int.mul_zero] at hx
        omega
      · exact z
    refine ⟨Int.mul_pos x0 hb, ⟨y, ?_⟩, ⟨x, Int.mul_comm _ _⟩, fun D h1 h2 => ?_⟩
    · subst hx hy
      grind
    · obtain ⟨d1, e1⟩ := h1
      obtain ⟨d2, e2⟩ := h2
      have e3 : x * d1 = y * d2 := by
        have : g * (x * d1) = g * (y * d2) := by
          rw [← Int.mul_assoc, ← Int.mul_assoc, ← hx, ← hy, ← e1, ← e2]
        exact Int.eq_of_mul_eq_mul_left (by omega) this
      have yd : y.natAbs ∣ d1.natAbs := by
        have h1 : y.natAbs ∣ x.natAbs * d1.natAbs := by
          rw [← Int.natAbs_mul, e3, Int.natAbs_mul]
          exact ⟨_, rfl⟩
        have cp : Nat.Coprime y.natAbs x.natAbs := Nat.Coprime.symm cop
        exact cp.dvd_of_dvd_mul_left h1
      obtain ⟨k, hk⟩ := Int.natAbs_dvd_natAbs.mp yd
      refine ⟨k, ?_⟩
      subst hx hy hk
      grind
def com (bs : List Int) : Int := bs.foldl lcmI 1
theorem com_ok : ∀ (bs : List Int) (c : Int), 0 < c → (∀ b ∈ bs, 0 < b) → 0 < bs.foldl lcmI c ∧ c ∣ bs.foldl lcmI c ∧ (∀ b ∈ bs, b ∣ bs.foldl lcmI c) ∧ ∀ D, c ∣ D → (∀ b ∈ bs, b ∣ D) → bs.foldl lcmI c ∣ D
  | [], c, hc, _ => ⟨hc, Int.dvd_refl c, fun b h => absurd h List.not_mem_nil, fun D h _ => h⟩
  | b :: bs, c, hc, hb => by
    obtain ⟨a1, a2, a3, a4⟩ := lcmI_ok hc (hb b List.mem_cons_self)
    obtain ⟨i1, i2, i3, i4⟩ := com_ok bs (lcmI c b) a1 fun x hx => hb x (List.mem_cons_of_mem _ hx)
    rw [List.foldl_cons]
    refine ⟨i1, Int.dvd_trans a2 i2, fun x hx => ?_, fun D h1 h2 => i4 D (a4 D h1 (h2 b List.mem_cons_self)) fun x hx => h2 x (List.mem_cons_of_mem _ hx)⟩
    rcases List.mem_cons.mp hx with rfl | hx
    · exact Int.dvd_trans a3 i2
    · exact i3 x hx
/-- tops over one bottom -/
def tops (c : Int) (ps : List (Int × Int)) : List Int := ps.map fun p => p.1 * (c / p.2)
theorem clear_q (c : Int) (hc : c ≠ 0) : ∀ ps : List (Int × Int), (∀ p ∈ ps, 0 < p.2 ∧ p.2 ∣ c) → sumR (ps.map fun p => Rat.divInt p.1 p.2) * (c : Rat) = ((tops c ps).sum : Int)
  | [], _ => by
    show (0 : Rat) * _ = ((0 : Int) : Rat)
    push_cast
    grind
  | p :: ps, h => by
    have i := clear_q c hc ps fun x hx => h x (List.mem_cons_of_mem _ hx)
    obtain ⟨p0, k, hk⟩ := h p List.mem_cons_self
    have e : c / p.2 = k := Int.ediv_eq_of_eq_mul_right (by omega) hk
    show (Rat.divInt p.1 p.2 + sumR (ps.map fun p => Rat.divInt p.1 p.2)) * (c : Rat) = ((p.1 * (c / p.2) + (tops c ps).sum : Int) : Rat)
    rw [e]
    have d := div_q (t := p.1) (show p.2 ≠ 0 by omega)
    have hk2 : (c : Rat) = (p.2 : Rat) * (k : Rat) := by
      rw [hk]
      push_cast
      rfl
    push_cast
    grind
/-- the products that aren't 0 -/
def prods : List Rat → List Rat → List (Int × Int)
  | x :: xs, y :: ys => (if x.num ≠ 0 ∧ y.num ≠ 0 then [(x.num * y.num, (x.den * y.den : Int))] else []) ++ prods xs ys
  | _, _ => []
theorem prods_q : ∀ xs ys : List Rat, sumR ((prods xs ys).map fun p => Rat.divInt p.1 p.2) = dotR xs ys
  | [], _ => rfl
  | _ :: _, [] => rfl
  | x :: xs, y :: ys => by
    show sumR (((if x.num ≠ 0 ∧ y.num ≠ 0 then [(x.num * y.num, (x.den * y.den : Int))] else []) ++ prods xs ys).map fun p => Rat.divInt p.1 p.2) = x * y + dotR xs ys
    rw [List.map_append, sumR_append, prods_q xs ys]
    split
    · show Rat.divInt (x.num * y.num) (x.den * y.den) + 0 + _ = _
      rw [times_q]
      grind
    · next h =>
      have z : x * y = 0 := by
        by_cases c : x.num = 0
        · rw [num_eq c]
          grind
        · have : y.num = 0 := Classical.byContradiction fun w => h ⟨c, w⟩
          rw [num_eq this]
          grind
      rw [z]
      show (0 : Rat) + _ = _
      grind
theorem prods_mem : ∀ {xs ys : List Rat} {p : Int × Int}, p ∈ prods xs ys → ∃ x ∈ xs, ∃ y ∈ ys, p = (x.num * y.num, (x.den * y.den : Int))
  | [], _, p, h => absurd h List.not_mem_nil
  | _ :: _, [], p, h => absurd h List.not_mem_nil
  | x :: xs, y :: ys, p, h => by
    have h' : p ∈ (if x.num ≠ 0 ∧ y.num ≠ 0 then [(x.num * y.num, (x.den * y.den : Int))] else []) ++ prods xs ys := h
    rcases List.mem_append.mp h' with h | h
    · split at h
      · exact ⟨x, List.mem_cons_self, y, List.mem_cons_self, List.mem_singleton.mp h⟩
      · exact absurd h List.not_mem_nil
    · obtain ⟨a, h1, b, h2, e⟩ := prods_mem h
      exact ⟨a, List.mem_cons_of_mem _ h1, b, List.mem_cons_of_mem _ h2, e⟩
/-! ### lists of pairs and of fractions in the heap -/
inductive PrsAt (H : Hp) : List V → List (Int × Int) → Prop where
  | nil : PrsAt H [] []
  | cons {p : Addr} {t b : Int} {vs : List V} {ps : List (Int × Int)} (e : H p = some (.tup [.int t, .int b])) (r : PrsAt H vs ps) : PrsAt H (.ref p :: vs) ((t, b) :: ps)
def pr (q : Rat) : Int × Int := (q.num, (q.den : Int))
abbrev FrsAt (H : Hp) (vs : List V) (qs : List Rat) : Prop := PrsAt H vs (qs.map pr)
def Fr (H : Hp) (p : Addr) (q : Rat) : Prop := H p = some (.tup [.int q.num, .int (q.den : Int)])
def FrL (H : Hp) (a : Addr) (qs : List Rat) : Prop := ∃ vs, H a = some (.lst vs) ∧ FrsAt H vs qs
theorem PrsAt.same {H H' : Hp} {vs : List V} {ps : List (Int × Int)} (h : PrsAt H vs ps) (s : Same H H') : PrsAt H' vs ps := by
  induction h with
  | nil => exact .nil
  | cons e _ ih => exact .cons (s _ _ e) ih
theorem PrsAt.but {H H' : Hp} {a : Addr} {xs : List V} {vs : List V} {ps : List (Int × Int)} (h : PrsAt H vs ps) (s : SameBut a H H') (ha : H a = some (.lst xs)) : PrsAt H' vs ps := by
  induction h with
  | nil => exact .nil
  | cons e _ ih => exact .cons (s _ _ (ne_of e ha (fun z => nomatch z)) e) ih
theorem PrsAt.len {H : Hp} {vs : List V} {ps : List (Int × Int)} (h : PrsAt H vs ps) : vs.length = ps.length := by
  induction h with
  | nil => rfl
  | cons _ _ ih => rw [List.length_cons, List.length_cons, ih]
theorem PrsAt.get {H : Hp} {vs : List V} {ps : List (Int × Int)} (h : PrsAt H vs ps) : ∀ {i : Nat} {v : V}, vs[i]? = some v → ∃ p t b, v = .ref p ∧ ps[i]? = some (t, b) ∧ H p = some (.tup [.int t, .int b]) := by
  induction h with
  | nil => intro i v z; cases z
  | cons e _ ih =>
    intro i v z
    cases i with
    | zero =>
      cases z
      exact ⟨_, _, _, rfl, rfl, e⟩
    | succ i => exact ih z
theorem PrsAt.at {H : Hp} {vs : List V} {ps : List (Int × Int)} (h : PrsAt H vs ps) : ∀ {i : Nat} {x : Int × Int}, ps[i]? = some x → ∃ p, vs[i]? = some (.ref p) ∧ H p = some (.tup [.int x.1, .int x.2]) := by
  induction h with
  | nil => intro i v z; cases z
  | cons e _ ih =>
    intro i v z
    cases i with
    | zero =>
      cases z
      exact ⟨_, rfl, e⟩
    | succ i => exact ih z
theorem PrsAt.app {H : Hp} {vs ws : List V} {ps qs : List (Int × Int)} (h : PrsAt H vs ps) (g : PrsAt H ws qs) : PrsAt H (vs ++ ws) (ps ++ qs) := by
  induction h with
  | nil => exact g
  | cons e _ ih => exact .cons e ih
theorem PrsAt.drop {H : Hp} {vs : List V} {ps : List (Int × Int)} (h : PrsAt H vs ps) : ∀ n, PrsAt H (vs.drop n) (ps.drop n) := by
  induction h with
  | nil => intro n; rw [List.drop_nil, List.drop_nil]; exact .nil
  | cons e r ih =>
    intro n
    cases n with
    | zero => exact .cons e r
    | succ n => exact ih n
theorem PrsAt.take {H : Hp} {vs : List V} {ps : List (Int × Int)} (h : PrsAt H vs ps) : ∀ n, PrsAt H (vs.take n) (ps.take n) := by
  induction h with
  | nil => intro n; rw [List.take_nil, List.take_nil]; exact .nil
  | cons e r ih =>
    intro n
    cases n with
    | zero => exact .nil
    | succ n => exact .cons e (ih n)
theorem FrsAt.get {H : Hp} {vs : List V} {qs : List Rat} (h : FrsAt H vs qs) {i : Nat} {v : V} (e : vs[i]? = some v) : ∃ p q, v = .ref p ∧ qs[i]? = some q ∧ Fr H p q := by
  obtain ⟨p, t, b, e1, e2, e3⟩ := PrsAt.get h e
  rw [List.getElem?_map] at e2
  obtain ⟨q, hq, ee⟩ := Option.map_eq_some_iff.mp e2
  cases ee
  exact ⟨p, q, e1, hq, e3⟩
theorem FrsAt.at {H : Hp} {vs : List V} {qs : List Rat} (h : FrsAt H vs qs) {i : Nat} {q : Rat} (e : qs[i]? = some q) : ∃ p, vs[i]? = some (.ref p) ∧ Fr H p q := PrsAt.at h (x := pr q) (by rw [List.getElem?_map, e]; rfl)
theorem FrsAt.len {H : Hp} {vs : List V} {qs : List Rat} (h : FrsAt H vs qs) : vs.length = qs.length := by
  have := PrsAt.len h
  rw [List.length_map] at this
  exact this
theorem FrsAt.app {H : Hp} {vs ws : List V} {qs rs : List Rat} (h : FrsAt H vs qs) (g : FrsAt H ws rs) : FrsAt H (vs ++ ws) (qs ++ rs) := by
  show PrsAt H _ ((qs ++ rs).map pr)
  rw [List.map_append]
  exact PrsAt.app h g
theorem FrsAt.one {H : Hp} {p : Addr} {q : Rat} (h : Fr H p q) : FrsAt H [.ref p] [q] := .cons h .nil
theorem FrsAt.drop {H : Hp} {vs : List V} {qs : List Rat} (h : FrsAt H vs qs) (n : Nat) : FrsAt H (vs.drop n) (qs.drop n) := by
  show PrsAt H _ ((qs.drop n).map pr)
  rw [List.map_drop]
  exact PrsAt.drop h n
theorem FrsAt.take {H : Hp} {vs : List V} {qs : List Rat} (h : FrsAt H vs qs) (n : Nat) : FrsAt H (vs.take n) (qs.take n) := by
  show PrsAt H _ ((qs.take n).map pr)
  rw [List.map_take]
  exact PrsAt.take h n
theorem FrL.same {H H' : Hp} {a : Addr} {qs : List Rat} (h : FrL H a qs) (s : Same H H') : FrL H' a qs := by
  obtain ⟨vs, e, r⟩ := h
  exact ⟨vs, s _ _ e, PrsAt.same r s⟩
theorem Fr.same {H H' : Hp} {p : Addr} {q : Rat} (h : Fr H p q) (s : Same H H') : Fr H' p q := s _ _ h
theorem Fr.low {H : Hp} {p : Addr} {t b : Int} {q : Rat} (hb : b ≠ 0) (e : Rat.divInt t b = q) (h : H p = some (.tup [.int (lowT t b), .int (lowB t b)])) : Fr H p q := by
  rw [lowT_num hb, lowB_den hb, e] at h
  exact h
/-- as data -/
def frD (q : Rat) : PyData := .tuple [.int q.num, .int (q.den : Int)]
theorem Fr.dp {K : PySem.W.Frag} {H : Hp} {p : Addr} {q : Rat} (h : Fr H p q) : Dp K H (.ref p) (frD q) := .tup (SqT.of h) (.cons (.int _) (.cons (.int _) .nil))
theorem FrsAt.dp {K : PySem.W.Frag} {H : Hp} : ∀ {qs : List Rat} {vs : List V}, FrsAt H vs qs → DpAll K H vs (qs.map frD)
  | [], vs, h => by
    cases h
    exact .nil
  | q :: qs, vs, h => by
    cases h with
    | cons e r => exact .cons (Fr.dp e) (FrsAt.dp r)
theorem frD_eqv (q r : Rat) : PyData.eqv (frD q) (frD r) = decide (q = r) := by
  show PyData.eqv (.tuple [.int q.num, .int (q.den : Int)]) (.tuple [.int r.num, .int (r.den : Int)]) = _
  simp only [PyData.eqv, PyData.eqvAll, Bool.and_true]
  rw [Bool.eq_iff_iff]
  simp only [Bool.and_eq_true, beq_iff_eq, decide_eq_true_eq]
  constructor
  · intro ⟨h1, h2⟩
    exact Rat.ext h1 (by exact_mod_cast h2)
  · intro h
    rw [h]
    exact ⟨rfl, rfl⟩
theorem frDs_eqv : ∀ qs rs : List Rat, PyData.eqvAll (qs.map frD) (rs.map frD) = decide (qs = rs)
  | [], [] => by simp [PyData.eqvAll]
  | [], r :: rs => by simp [PyData.eqvAll]
  | q :: qs, [] => by simp [PyData.eqvAll]
  | q :: qs, r :: rs => by
    rw [List.map_cons, List.map_cons, PyData.eqvAll, frD_eqv, frDs_eqv qs rs, Bool.eq_iff_iff]
    simp
theorem frL_eqv (qs rs : List Rat) : PyData.eqv (.list (qs.map frD)) (.list (rs.map frD)) = decide (qs = rs) := by
  rw [← frDs_eqv]
  simp only [PyData.eqv]
theorem frDs_lay : ∀ qs : List Rat, PyData.canLayAll0 (qs.map frD) = true
  | [] => rfl
  | q :: qs => by
    rw [List.map_cons, PyData.canLayAll0, frDs_lay qs, Bool.and_true]
    rfl
theorem frDs_deep : ∀ qs : List Rat, PyData.depthAll (qs.map frD) ≤ 3
  | [] => by simp [PyData.depthAll]
  | q :: qs => by
    have := frDs_deep qs
    simp only [List.map_cons, PyData.depthAll, frD, PyData.depth]
    omega
theorem frD_shaped (q : Rat) : SeqAt.shaped (frD q) = true := rfl
theorem frL_shaped (qs : List Rat) : SeqAt.shaped (.list (qs.map frD)) = true := by
  have h1 := frDs_deep qs
  have h2 : PyData.depth (.list (qs.map frD)) ≤ 64 := by simp only [PyData.depth]; omega
  show (PyData.canLay0 (.list (qs.map frD)) && decide (PyData.depth (.list (qs.map frD)) ≤ 64)) = true
  rw [Bool.and_eq_true]
  exact ⟨by simp only [PyData.canLay0]; exact frDs_lay qs, decide_eq_true h2⟩

end E1

namespace L2
open PySem PySem.Spec PyProof.Rows
/-! ### zip(*rows): rows a list of lists of one length, a name as the target -/
theorem zs_typeCall (us : List Value) : checkTypeCall "zip" ⟨us, []⟩ = pure () := by kernel_rfl
theorem zs_newCall (us : List Value) : checkBuiltinCall "zip.__new__" ⟨.type "zip" :: us, []⟩ = pure () := by
  cases us with
  | nil => kernel_rfl
  | cons a us => kernel_rfl
theorem zs_init (o : Value) (us : List Value) : argsOk "object.__init__" ⟨o :: us, []⟩ := by unfold argsOk; kernel_rfl
abbrev ZRec (h : Heap) (z TI TO : Addr) (x : Value) (f : Bool) : Prop := h.get? z = some { cls := .type "zip", dict := none, data := .fields #[x, .bool f, .bool false, .ref TI, .ref TO], slots := #[] }
abbrev TupAt (h : Heap) (T : Addr) (us : List Value) : Prop := h.get? T = some { cls := .type "tuple", data := .seq us.toArray }
def refsFrom (n r : Nat) : List Value := (List.range' n r).map Value.ref
structure ZMid (h0 h : Heap) (n : Nat) (ls : List Addr) (i k : Nat) (x : Value) (f : Bool) (vals : List Value) (p : Nat) : Prop where
  its : ∀ (j : Nat) (l : Addr), ls[j]? = some l → h.IsListIter (n + j) l (if j < k then i + 1 else i)
  sz : h.objs.size = h0.objs.size
  far : ∀ c o, c < n ∨ n + ls.length + 2 < c → h0.get? c = some o → h.get? c = some o
  ti : TupAt h (n + ls.length) (refsFrom n ls.length)
  z : ZRec h (n + ls.length + 2) (n + ls.length) (n + ls.length + 1) x f
  to : ∃ us : List Value, us.length = ls.length ∧ TupAt h (n + ls.length + 1) us ∧ us.take p = vals.take p
/-- what is drawn at turn i -/
def ZDraw (h0 : Heap) (n : Nat) (ls : List Addr) (i : Nat) (vals : List Value) : Prop := vals.length = ls.length ∧ ∀ (j : Nat) (l : Addr), ls[j]? = some l → l < n ∧ ∃ (its : Array Value) (v : Value), h0.IsList l its ∧ its[i]? = some v ∧ vals[j]? = some v
section
variable {prog : Program} {w : World} {A : Around} {E : Value → Shared → Prop} {s : Shared} {h0 : Heap} {n i k p : Nat} {ls : List Addr} {x : Value} {f : Bool} {vals : List Value}
theorem zs_alive {a : Addr} {Q : Option Obj → Shared → Prop} (h : ∀ o, Q o s) : wpAny (model prog w) A (loadIfAlive a) Q E s := fun _ _ _ => h _
theorem zs_free {z TI TO : Addr} {Q : Bool → Shared → Prop} (hz : ZRec s.heap z TI TO x f) (hx : x = .none ∨ ∃ T : Nat, x = rawInt T) (h1 : Q true s)
    (h0 : ∀ g, ZRec g z TI TO x true → Heap.SameBut z s.heap g → Q false { s with heap := g }) : wpAny (model prog w) A (Builtin.SmallTypes.ownedTupleIsFree (.ref z)) Q E s := by
  unfold Builtin.SmallTypes.ownedTupleIsFree
  rcases hx with rfl | ⟨T, rfl⟩
  · exact wpAny_bind (wpAny_field hz rfl rfl (wpAny_pure h1))
  · refine wpAny_bind (wpAny_field hz rfl rfl ?_)
    show wpAny _ _ (loadIfAlive _ >>= _) _ _ _
    refine wpAny_bind (zs_alive fun o => ?_)
    cases o with
    | none => exact wpAny_pure h1
    | some o =>
      simp only [Bool.false_eq_true, Option.isNone_some, if_false]
      refine wpAny_bind (wpAny_field hz rfl (x := Value.bool f) rfl ?_)
      cases f with
      | true => exact (if_neg (show ¬ ((Value.bool true != Value.bool true) = true) from Bool.false_ne_true)).symm ▸ wpAny_pure (h0 s.heap hz (Heap.SameBut.refl _ _))
      | false => exact (if_pos (show (Value.bool false != Value.bool true) = true from rfl)).symm ▸ wpAny_bind (wpAny_setField_rec hz (by simp) fun g e b => wpAny_pure (h0 g e b))
theorem zs_draw {Q : Value → Shared → Prop} (M : ZMid h0 s.heap n ls i k x f vals p) (L : ZDraw h0 n ls i vals) (hk : k < ls.length)
    (q : ∀ v g, vals[k]? = some v → ZMid h0 g n ls i (k + 1) x f vals p → Q v { s with heap := g }) : wpAny (model prog w) A (Builtin.SmallTypes.nextOf (.ref (n + k))) Q E s := by
  have ek : ls[k]? = some ls[k] := List.getElem?_eq_getElem hk
  obtain ⟨lt, its, v, hl, hv, ev⟩ := L.2 k _ ek
  have hit := M.its k _ ek
  rw [if_neg (Nat.lt_irrefl k)] at hit
  refine wpAny_nextOf_list_item hit (hl.at fun o e => M.far _ _ (.inl lt) e) hv fun g hit' sb => q v g ev ⟨fun j l ej => ?_, sb.1.trans M.sz, fun c o hc e => ?_, ?_, ?_, ?_⟩
  · by_cases ne : j = k
    · subst ne
      rw [ek] at ej
      cases ej
      rw [if_pos (Nat.lt_succ_self _)]
      exact hit'
    · have := M.its j l ej
      rw [show (if j < k + 1 then i + 1 else i) = (if j < k then i + 1 else i) by split <;> split <;> omega]
      exact this.at fun o e => (sb.2 _ (by show n + j ≠ n + k; omega)).trans e
  · exact (sb.2 _ (by show c ≠ n + k; omega)).trans (M.far c o hc e)
  · exact (sb.2 _ (by show n + ls.length ≠ n + k; omega)).trans M.ti
  · exact (sb.2 _ (by show n + ls.length + 2 ≠ n + k; omega)).trans M.z
  · obtain ⟨us, e1, e2, e3⟩ := M.to
    exact ⟨us, e1, (sb.2 _ (by show n + ls.length + 1 ≠ n + k; omega)).trans e2, e3⟩
theorem zs_put {v : Value} {Q : Unit → Shared → Prop} (M : ZMid h0 s.heap n ls i (k + 1) x f vals k) (hv : vals[k]? = some v) (hk : k < ls.length) (hr : ls.length ≤ 1000)
    (q : ∀ g, ZMid h0 g n ls i (k + 1) x f vals (k + 1) → Q () { s with heap := g }) : wpAny (model prog w) A (updateSeq (n + ls.length + 1) (·.setIfInBounds k v)) Q E s := by
  obtain ⟨us, e1, e2, e3⟩ := M.to
  have sb : Heap.SameBut (n + ls.length + 1) s.heap (s.heap.update (n + ls.length + 1) (Obj.mapSeq (·.setIfInBounds k v))) := Heap.SameBut.update ..
  have b1 : us.toArray.size ≤ sizeLine := by rw [List.size_toArray, e1]; exact Nat.le_trans hr (by decide)
  refine wpAny_updateSeq e2 rfl (q _ ⟨fun j l ej => ?_, sb.1.trans M.sz, fun c o hc e => ?_, ?_, ?_, ⟨us.set k v, by rw [List.length_set, e1], ?_, ?_⟩⟩) b1 (by rw [Array.size_setIfInBounds]; exact Nat.le_succ_of_le b1)
  · have hj : j < ls.length := (List.getElem?_eq_some_iff.mp ej).1
    exact (M.its j l ej).at fun o e => (sb.2 _ (by show n + j ≠ n + ls.length + 1; omega)).trans e
  · exact (sb.2 _ (by show c ≠ n + ls.length + 1; omega)).trans (M.far c o hc e)
  · exact (sb.2 _ (by show n + ls.length ≠ n + ls.length + 1; omega)).trans M.ti
  · exact (sb.2 _ (by show n + ls.length + 2 ≠ n + ls.length + 1; omega)).trans M.z
  · show Heap.get? _ _ = _
    rw [Heap.get?_update_self _ e2 rfl]
    simp [Obj.mapSeq]
  · have l1 : k < us.length := by omega
    have hv2 : vals.take (k + 1) = vals.take k ++ [v] := by rw [List.take_add_one, hv]; rfl
    rw [hv2, ← e3, List.take_add_one, List.getElem?_set_self l1, List.take_set_of_le (Nat.le_refl k)]
    rfl
end
end L2
namespace L2
open PySem PySem.Spec PyProof.Rows
theorem refsFrom_len (n r : Nat) : (refsFrom n r).length = r := by simp [refsFrom]
theorem refsFrom_at {n r k : Nat} (hk : k < r) : (refsFrom n r)[k]? = some (.ref (n + k)) := by simp [refsFrom, List.getElem?_range', hk]
theorem refsFrom_drop {n r k : Nat} (hk : k < r) : (refsFrom n r).drop k = .ref (n + k) :: (refsFrom n r).drop (k + 1) := by
  have e := List.drop_eq_getElem_cons (l := refsFrom n r) (i := k) (by rw [refsFrom_len]; exact hk)
  rw [e]
  congr 1
  have := refsFrom_at (n := n) hk
  exact Option.some.inj ((List.getElem?_eq_getElem _).symm.trans this)
theorem refsFrom_idx {n r k : Nat} (hk : k < r) : (refsFrom n r).zipIdx.drop k = (.ref (n + k), k) :: (refsFrom n r).zipIdx.drop (k + 1) := by
  have hl : k < (refsFrom n r).zipIdx.length := by rw [List.length_zipIdx, refsFrom_len]; exact hk
  rw [List.drop_eq_getElem_cons hl]
  congr 1
  have := refsFrom_at (n := n) hk
  rw [List.getElem_zipIdx]
  rw [List.getElem?_eq_getElem (by rw [refsFrom_len]; exact hk)] at this
  rw [Option.some.inj this, Nat.zero_add]
/-- where a zip stands between two turns -/
structure ZSt (h : Heap) (n : Nat) (ls : List Addr) (i : Nat) : Prop where
  its : ∀ (j : Nat) (l : Addr), ls[j]? = some l → h.IsListIter (n + j) l i
  ti : TupAt h (n + ls.length) (refsFrom n ls.length)
  z : ∃ x f, (x = .none ∨ ∃ T : Nat, x = rawInt T) ∧ ZRec h (n + ls.length + 2) (n + ls.length) (n + ls.length + 1) x f
  to : ∃ us : List Value, us.length = ls.length ∧ TupAt h (n + ls.length + 1) us
theorem ZMid.sb {h0 h h' : Heap} {n i k p : Nat} {ls : List Addr} {x y : Value} {f b : Bool} {vals : List Value} (M : ZMid h0 h n ls i k x f vals p) (e : Heap.SameBut (n + ls.length + 2) h h') (z : ZRec h' (n + ls.length + 2) (n + ls.length) (n + ls.length + 1) y b) : ZMid h0 h' n ls i k y b vals p := by
  obtain ⟨us, e1, e2, e3⟩ := M.to
  refine ⟨fun j l ej => ?_, e.1.trans M.sz, fun c o hc q => (e.2 _ (by show c ≠ n + ls.length + 2; omega)).trans (M.far c o hc q), (e.2 _ (by show n + ls.length ≠ n + ls.length + 2; omega)).trans M.ti, z, us, e1, (e.2 _ (by show n + ls.length + 1 ≠ n + ls.length + 2; omega)).trans e2, e3⟩
  have hj : j < ls.length := (List.getElem?_eq_some_iff.mp ej).1
  exact (M.its j l ej).at fun o q => (e.2 _ (by show n + j ≠ n + ls.length + 2; omega)).trans q
theorem ZSt.mid {h : Heap} {n i : Nat} {ls : List Addr} (S : ZSt h n ls i) (vals : List Value) : ∃ x f, (x = .none ∨ ∃ T : Nat, x = rawInt T) ∧ ZMid h h n ls i 0 x f vals 0 := by
  obtain ⟨x, f, ex, z⟩ := S.z
  obtain ⟨us, e1, e2⟩ := S.to
  exact ⟨x, f, ex, fun j l ej => by rw [if_neg (Nat.not_lt_zero j)]; exact S.its j l ej, rfl, fun _ _ _ q => q, S.ti, z, us, e1, e2, rfl⟩
theorem ZMid.fin {h0 h h' : Heap} {n i p : Nat} {ls : List Addr} {x y : Value} {f b : Bool} {vals : List Value} (M : ZMid h0 h n ls i ls.length x f vals p) (up : ∀ c o, c ≠ n + ls.length + 2 → h.get? c = some o → h'.get? c = some o) (ey : y = .none ∨ ∃ T : Nat, y = rawInt T)
    (z : ZRec h' (n + ls.length + 2) (n + ls.length) (n + ls.length + 1) y b) : ZSt h' n ls (i + 1) := by
  obtain ⟨us, e1, e2, _⟩ := M.to
  refine ⟨fun j l ej => ?_, up _ _ (by show n + ls.length ≠ n + ls.length + 2; omega) M.ti, ⟨y, b, ey, z⟩, us, e1, up _ _ (by show n + ls.length + 1 ≠ n + ls.length + 2; omega) e2⟩
  have hj : j < ls.length := (List.getElem?_eq_some_iff.mp ej).1
  have := M.its j l ej
  rw [if_pos hj] at this
  exact this.at fun o => up _ o (by show n + j ≠ n + ls.length + 2; omega)
theorem ZSt.keep {h h' : Heap} {n i : Nat} {ls : List Addr} (S : ZSt h n ls i) (k : ∀ b o, n ≤ b → b ≤ n + ls.length + 2 → h.get? b = some o → h'.get? b = some o) : ZSt h' n ls i := by
  obtain ⟨x, f, ex, z⟩ := S.z
  obtain ⟨us, e1, e2⟩ := S.to
  refine ⟨fun j l ej => ?_, k _ _ (by show n ≤ n + ls.length; omega) (by show n + ls.length ≤ n + ls.length + 2; omega) S.ti, ⟨x, f, ex, k _ _ (by show n ≤ n + ls.length + 2; omega) (Nat.le_refl _) z⟩, us, e1, k _ _ (by show n ≤ n + ls.length + 1; omega) (by show n + ls.length + 1 ≤ n + ls.length + 2; omega) e2⟩
  have hj : j < ls.length := (List.getElem?_eq_some_iff.mp ej).1
  exact (S.its j l ej).at fun o => k _ o (by show n ≤ n + j; omega) (by show n + j ≤ n + ls.length + 2; omega)
section
variable {prog : Program} {w : World} {A : Around} {E : Value → Shared → Prop} {s : Shared} {n i : Nat} {ls : List Addr} {vals : List Value}
theorem zs_item {Q : Value → Shared → Prop} (S : ZSt s.heap n ls i) (L : ZDraw s.heap n ls i vals) (h0 : ls ≠ []) (hr : ls.length ≤ 1000)
    (q : ∀ h', ZSt h' n ls (i + 1) → TupAt h' s.heap.objs.size vals → (∀ c o, c < n ∨ n + ls.length + 2 < c → s.heap.get? c = some o → h'.get? c = some o) → Q (.ref s.heap.objs.size) { s with heap := h' }) :
    wpAny (model prog w) A (Builtin.«zip.__next__» ⟨[.ref (n + ls.length + 2)], []⟩) (fun fin s' => ∃ v, fin = .done (.ret v) ∧ Q v s') E s := by
  obtain ⟨hp, g, d, tk0, os⟩ := s
  obtain ⟨x, f, hx, M⟩ := S.mid vals
  have zl : n + ls.length + 2 < hp.objs.size := Heap.lt_size M.z
  have vsz : vals.length ≤ sizeLine := by rw [L.1]; exact Nat.le_trans hr (by decide)
  show wpAny _ _ (field (.ref (n + ls.length + 2)) 2 >>= _) _ _ _
  refine wpAny_bind (wpAny_field M.z rfl (x := .bool false) rfl ?_)
  show wpAny _ _ (field (.ref (n + ls.length + 2)) 3 >>= _) _ _ _
  refine wpAny_bind (wpAny_field M.z rfl (x := .ref (n + ls.length)) rfl ?_)
  refine wpAny_bind (wpAny_seqItems M.ti rfl ?_)
  have ne : (refsFrom n ls.length).toArray.isEmpty = false := by
    cases ls with
    | nil => exact absurd rfl h0
    | cons a t => simp [refsFrom, List.range'_succ]
  dsimp only
  rw [ne]
  show wpAny _ _ (Builtin.SmallTypes.ownedTupleIsFree (.ref _) >>= _) _ _ _
  refine wpAny_bind (zs_free M.z hx ?_ fun g1 z1 b1 => ?_)
  · simp only [if_true]
    refine wpAny_bind (wpAny_rule ?_)
    refine wpAny_bind (wpAny_field M.z rfl (x := .ref (n + ls.length + 1)) rfl ?_)
    dsimp only
    refine wpAny_bind (wpAny_setField_rec M.z (by simp) fun g1 z1 b1 => ?_)
    have M1 : ZMid hp g1 n ls i 0 .ellipsis f vals 0 := M.sb b1 z1
    refine wpAny_bind (wpAny_forIn_list _ (fun rest b s' => ∃ k g', b = (none, ()) ∧ k ≤ ls.length ∧ rest = (refsFrom n ls.length).zipIdx.drop k ∧ s' = ⟨g', g, d, tk0, os⟩ ∧ ZMid hp g' n ls i k .ellipsis f vals k) _ ?_ ?_ _ _ ⟨0, g1, rfl, Nat.zero_le _, rfl, rfl, M1⟩)
    · rintro ⟨it, k'⟩ rest b s' ⟨k, g', rfl, hk, er, rfl, M2⟩
      have hk2 : k < ls.length := by
        rcases Nat.lt_or_ge k ls.length with q | q
        · exact q
        · rw [List.drop_eq_nil_of_le (by rw [List.length_zipIdx, refsFrom_len]; exact q)] at er
          cases er
      rw [refsFrom_idx hk2] at er
      cases er
      dsimp only
      refine wpAny_bind (wpAny_onRaise ?_)
      show wpAny _ _ (Builtin.SmallTypes.nextOf (.ref (n + k')) >>= _) _ _ _
      refine wpAny_bind (zs_draw (s := ⟨g', g, d, tk0, os⟩) M2 L hk2 fun v g2 ev M3 => wpAny_pure ?_)
      dsimp only
      obtain ⟨us, e1, e2, e3⟩ := M3.to
      refine wpAny_bind (wpAny_seqItems (s := ⟨g2, g, d, tk0, os⟩) e2 rfl ?_)
      dsimp only
      refine wpAny_bind (zs_put (s := ⟨g2, g, d, tk0, os⟩) M3 ev hk2 hr fun g3 M4 => ?_)
      exact wpAny_bind (wpAny_letGo (wpAny_pure ⟨k' + 1, g3, rfl, hk2, rfl, rfl, M4⟩))
    · rintro b s' ⟨k, g', rfl, hk, er, rfl, M2⟩
      have ek : k = ls.length := by
        rcases Nat.lt_or_ge k ls.length with q | q
        · rw [refsFrom_idx q] at er
          cases er
        · omega
      subst ek
      obtain ⟨us, e1, e2, e3⟩ := M2.to
      have eu : us = vals := by
        rw [← List.take_length (l := us), e1, e3, ← L.1, List.take_length]
      subst eu
      dsimp only
      refine wpAny_bind (wpAny_seqItems (s := ⟨g', g, d, tk0, os⟩) e2 rfl ?_)
      dsimp only
      refine wpAny_bind (wpAny_newTuple ?_ vsz)
      have sz : g'.objs.size = hp.objs.size := M2.sz
      unfold Builtin.SmallTypes.ownedTupleHandOut
      have z2 : ZRec (g'.push { cls := .type "tuple", data := .seq us.toArray }) (n + ls.length + 2) (n + ls.length) (n + ls.length + 1) .ellipsis f := Heap.get?_push_of_some _ M2.z
      refine wpAny_bind (wpAny_bind (wpAny_setField_rec z2 (by simp) fun g3 z3 b3 => ?_))
      refine wpAny_setField_rec z3 (by simp) fun g4 z4 b4 => wpAny_pure ⟨_, rfl, ?_⟩
      have up : ∀ c o, c ≠ n + ls.length + 2 → g'.get? c = some o → g4.get? c = some o := fun c o hc e => b4.extBut _ _ hc (b3.extBut _ _ hc (Heap.get?_push_of_some _ e))
      have new : TupAt g4 hp.objs.size us := (b4.2 _ (Nat.ne_of_gt zl)).trans ((b3.2 _ (Nat.ne_of_gt zl)).trans (by rw [← sz]; exact Heap.get?_push_size _ rfl))
      show Q (.ref g'.objs.size) _
      rw [sz] at z4 ⊢
      exact q g4 (M2.fin up (.inr ⟨_, rfl⟩) z4) new fun c o hc e => up c o (by show c ≠ n + ls.length + 2; omega) (M2.far c o hc e)
  · simp only [Bool.false_eq_true, if_false]
    have M1 : ZMid hp g1 n ls i 0 x true vals 0 := M.sb b1 z1
    rw [← Array.forIn_toList]
    refine wpAny_bind (wpAny_forIn_list _ (fun rest b s' => ∃ k g', b = (none, (vals.take k).toArray) ∧ k ≤ ls.length ∧ rest = (refsFrom n ls.length).drop k ∧ s' = ⟨g', g, d, tk0, os⟩ ∧ ZMid hp g' n ls i k x true vals 0) _ ?_ ?_ _ _ ⟨0, g1, rfl, Nat.zero_le _, rfl, rfl, M1⟩)
    · rintro it rest b s' ⟨k, g', rfl, hk, er, rfl, M2⟩
      have hk2 : k < ls.length := by
        rcases Nat.lt_or_ge k ls.length with q | q
        · exact q
        · rw [List.drop_eq_nil_of_le (by rw [refsFrom_len]; exact q)] at er
          cases er
      rw [refsFrom_drop hk2] at er
      cases er
      dsimp only
      refine wpAny_bind (wpAny_holding ?_)
      show wpAny _ _ (Builtin.SmallTypes.nextOf (.ref (n + k)) >>= _) _ _ _
      refine wpAny_bind (zs_draw (s := ⟨g', g, d, tk0, os⟩) M2 L hk2 fun v g2 ev M3 => wpAny_pure ?_)
      refine wpAny_pure ⟨k + 1, g2, ?_, hk2, rfl, rfl, M3⟩
      rw [List.take_add_one, ev]
      simp
    · rintro b s' ⟨k, g', rfl, hk, er, rfl, M2⟩
      have ek : k = ls.length := by
        rcases Nat.lt_or_ge k ls.length with q | q
        · rw [refsFrom_drop q] at er
          cases er
        · omega
      subst ek
      dsimp only
      rw [← L.1, List.take_length]
      refine wpAny_bind (wpAny_newTuple ?_ vsz)
      have sz : g'.objs.size = hp.objs.size := M2.sz
      refine wpAny_pure ⟨_, rfl, ?_⟩
      show Q (.ref g'.objs.size) _
      have up : ∀ c o, g'.get? c = some o → (g'.push { cls := .type "tuple", data := .seq vals.toArray }).get? c = some o := fun c o e => Heap.get?_push_of_some _ e
      have new : TupAt (g'.push { cls := .type "tuple", data := .seq vals.toArray }) g'.objs.size vals := Heap.get?_push_size _ rfl
      rw [sz] at new ⊢
      exact q _ (M2.fin (fun c o _ e => up c o e) hx (up _ _ M2.z)) new fun c o hc e => up c o (M2.far c o hc e)
theorem zs_end {Q : Fin → Shared → Prop} (hh : A.handled = none) (S : ZSt s.heap n ls i) (L : ls = [] ∨ ∃ l its, ls[0]? = some l ∧ l < n ∧ s.heap.IsList l its ∧ its[i]? = none)
    (q : ∀ h' e, (∀ c o, c < n ∨ n + ls.length + 2 < c → s.heap.get? c = some o → h'.get? c = some o) → (∃ o, h'.get? e = some o ∧ o.cls = .type "StopIteration") → E (.ref e) { s with heap := h' }) :
    wpAny (model prog w) A (Builtin.«zip.__next__» ⟨[.ref (n + ls.length + 2)], []⟩) Q E s := by
  obtain ⟨hp, g, d, tk0, os⟩ := s
  obtain ⟨x, f, hx, M⟩ := S.mid []
  have zl : n + ls.length + 2 < hp.objs.size := Heap.lt_size M.z
  show wpAny _ _ (field (.ref (n + ls.length + 2)) 2 >>= _) _ _ _
  refine wpAny_bind (wpAny_field M.z rfl (x := .bool false) rfl ?_)
  show wpAny _ _ (field (.ref (n + ls.length + 2)) 3 >>= _) _ _ _
  refine wpAny_bind (wpAny_field M.z rfl (x := .ref (n + ls.length)) rfl ?_)
  refine wpAny_bind (wpAny_seqItems M.ti rfl ?_)
  dsimp only
  rcases L with rfl | ⟨l, its, el, lt, hl, hend⟩
  · simp only [refsFrom, List.length_nil, List.range'_zero, List.map_nil, List.isEmpty_toArray, List.isEmpty_nil, if_true]
    refine wpAny_bind (wpAny_rule ?_)
    refine wpAny_bind ?_
    show wpAny _ _ (newExc (Value.type "StopIteration") [] >>= _) _ _ _
    refine wpAny_bind ?_
    simp only [newExc, newTuple]
    refine wpAny_bind (wpAny_newObj_type (wpAny_bind (m := firstArgMember _ _) (wpAny_of_eq (a := Value.none) (by first | rfl | (simp only [firstArgMember]; rfl)) (wpAny_newObj_type ?_ (by size_fits)))) (by size_fits))
    simp only [raiseNew]
    refine wpAny_bind (wpAny_handled ?_)
    first | rw [hh] | rw [show A.in1.handled = none from hh]
    exact wpAny_bind (wpAny_pure (wpAny_throw (q _ _ (fun c o _ e => Heap.get?_push_of_some _ (Heap.get?_push_of_some _ e)) ⟨_, Heap.get?_push_size _ rfl, rfl⟩)))
  · have hlen : 0 < ls.length := (List.getElem?_eq_some_iff.mp el).1
    have cons := refsFrom_drop (n := n) hlen
    have cons2 := refsFrom_idx (n := n) hlen
    rw [List.drop_zero] at cons cons2
    have ne : (refsFrom n ls.length).toArray.isEmpty = false := by rw [cons]; rfl
    rw [ne]
    show wpAny _ _ (Builtin.SmallTypes.ownedTupleIsFree (.ref _) >>= _) _ _ _
    refine wpAny_bind (zs_free M.z hx ?_ fun g1 z1 b1 => ?_)
    · simp only [if_true]
      refine wpAny_bind (wpAny_rule ?_)
      refine wpAny_bind (wpAny_field M.z rfl (x := .ref (n + ls.length + 1)) rfl ?_)
      dsimp only
      refine wpAny_bind (wpAny_setField_rec M.z (by simp) fun g1 z1 b1 => ?_)
      rw [cons2, List.forIn_cons]
      refine wpAny_bind (wpAny_bind (wpAny_bind (wpAny_onRaise ?_)))
      show wpAny _ _ (Builtin.SmallTypes.nextOf (.ref (n + 0)) >>= _) _ _ _
      refine wpAny_bind (wpAny_nextOf_list_end (s := ⟨g1, g, d, tk0, os⟩) hh ((S.its 0 l el).at fun o e => (b1.2 _ (by show n + 0 ≠ n + ls.length + 2; omega)).trans e) (hl.at fun o e => (b1.2 _ (by show l ≠ n + ls.length + 2; omega)).trans e) hend fun g2 e k2 he => ?_)
      obtain ⟨oe, h1, h2⟩ := he
      have zz : ZRec g2 (n + ls.length + 2) (n + ls.length) (n + ls.length + 1) .ellipsis f := k2 _ _ (by show n + ls.length + 2 ≠ n + 0; omega) z1
      have nz : e ≠ n + ls.length + 2 := fun q => by rw [q, zz] at h1; cases h1; simp at h2
      refine wpAny_setField_rec (s := ⟨g2, g, d, tk0, os⟩) zz (by simp) fun g3 z3 b3 => q g3 e (fun c o hc q => ?_) ⟨oe, b3.extBut _ _ nz h1, h2⟩
      have c1 : c ≠ n + ls.length + 2 := by show c ≠ n + ls.length + 2; omega
      exact b3.extBut _ _ c1 (k2 _ _ (by show c ≠ n + 0; omega) (b1.extBut _ _ c1 q))
    · simp only [Bool.false_eq_true, if_false]
      rw [← Array.forIn_toList, show (refsFrom n ls.length).toArray.toList = refsFrom n ls.length from rfl, cons, List.forIn_cons]
      refine wpAny_bind (wpAny_bind (wpAny_bind (wpAny_holding ?_)))
      show wpAny _ _ (Builtin.SmallTypes.nextOf (.ref (n + 0)) >>= _) _ _ _
      refine wpAny_bind (wpAny_nextOf_list_end (s := ⟨g1, g, d, tk0, os⟩) hh ((S.its 0 l el).at fun o e => (b1.2 _ (by show n + 0 ≠ n + ls.length + 2; omega)).trans e) (hl.at fun o e => (b1.2 _ (by show l ≠ n + ls.length + 2; omega)).trans e) hend fun g2 e k2 he => q g2 e (fun c o hc q => ?_) he)
      exact k2 _ _ (by show c ≠ n + 0; omega) (b1.extBut _ _ (by show c ≠ n + ls.length + 2; omega) q)
theorem zs_next_item {Q : Option Value → Shared → Prop} (S : ZSt s.heap n ls i) (L : ZDraw s.heap n ls i vals) (h0 : ls ≠ []) (hr : ls.length ≤ 1000)
    (q : ∀ h', ZSt h' n ls (i + 1) → TupAt h' s.heap.objs.size vals → (∀ c o, c < n ∨ n + ls.length + 2 < c → s.heap.get? c = some o → h'.get? c = some o) → Q (some (.ref s.heap.objs.size)) { s with heap := h' }) :
    wpAny (model prog w) A (pyNext (.ref (n + ls.length + 2))) Q E s := by
  obtain ⟨x, f, _, z⟩ := S.z
  have T : s.TypeIs (.ref (n + ls.length + 2)) "zip" := ⟨_, z, rfl⟩
  unfold pyNext
  exact wpAny_bind (wpAny_attempt (wpAny_callSpecial?_slot (name := Str.ofString "__next__") T F.slot_zip_next (wpAny_call_entry F.slot_zip_next T F.entry_zip_next (zs_item S L h0 hr fun h' a b c => wpAny_pure (q h' a b c)) (F.args_zip_next_1 _))))
theorem zs_next_end {Q : Option Value → Shared → Prop} (hh : A.in1.handled = none) (S : ZSt s.heap n ls i) (L : ls = [] ∨ ∃ l its, ls[0]? = some l ∧ l < n ∧ s.heap.IsList l its ∧ its[i]? = none)
    (q : ∀ h', (∀ c o, c < n ∨ n + ls.length + 2 < c → s.heap.get? c = some o → h'.get? c = some o) → Q none { s with heap := h' }) : wpAny (model prog w) A (pyNext (.ref (n + ls.length + 2))) Q E s := by
  obtain ⟨x, f, _, z⟩ := S.z
  have T : s.TypeIs (.ref (n + ls.length + 2)) "zip" := ⟨_, z, rfl⟩
  unfold pyNext
  refine wpAny_bind (wpAny_attempt (wpAny_callSpecial?_slot (name := Str.ofString "__next__") T F.slot_zip_next (wpAny_call_entry F.slot_zip_next T F.entry_zip_next (zs_end hh S L fun h' e hk he => ?_) (F.args_zip_next_1 _))))
  obtain ⟨o, ho, hc⟩ := he
  exact wpAny_bind (wpAny_isInstance (T := "StopIteration") (b := true) ⟨o, ho, hc⟩ isSubtype_stop (wpAny_pure (q _ hk)))
end
end L2
namespace L2
open PySem PySem.Spec PyProof.Rows
/-- the heap where a zip over the lists ls has begun -/
def zsIts (h : Heap) : List Addr → Heap
  | [] => h
  | l :: ls => zsIts (h.push { cls := .type "list_iterator", data := .fields #[.ref l, .int 0 0] }) ls
theorem zsIts_size : ∀ (ls : List Addr) (h : Heap), (zsIts h ls).objs.size = h.objs.size + ls.length
  | [], h => rfl
  | l :: ls, h => by
    rw [zsIts, zsIts_size ls, Heap.size_push, List.length_cons]
    omega
theorem zsIts_keep : ∀ (ls : List Addr) (h : Heap) (c : Addr) (o : Obj), h.get? c = some o → (zsIts h ls).get? c = some o
  | [], _, _, _, e => e
  | l :: ls, h, c, o, e => zsIts_keep ls _ c o (Heap.get?_push_of_some _ e)
theorem zsIts_at : ∀ (ls : List Addr) (h : Heap) (j : Nat) (l : Addr), ls[j]? = some l → (zsIts h ls).IsListIter (h.objs.size + j) l 0
  | [], _, j, l, e => by cases e
  | a :: ls, h, 0, l, e => by
    cases e
    exact ⟨_, zsIts_keep ls _ _ _ (Heap.get?_push_size _ rfl), rfl, rfl⟩
  | a :: ls, h, j + 1, l, e => by
    have := zsIts_at ls (h.push { cls := .type "list_iterator", data := .fields #[.ref a, .int 0 0] }) j l e
    rw [Heap.size_push] at this
    rw [show h.objs.size + (j + 1) = h.objs.size + 1 + j by omega]
    exact this
abbrev zsT (h : Heap) (ls : List Addr) : Heap := (zsIts h ls).push { cls := .type "tuple", data := .seq (refsFrom h.objs.size ls.length).toArray }
abbrev zsO (h : Heap) (ls : List Addr) : Heap := (zsT h ls).push { cls := .type "tuple", data := .seq (((refsFrom h.objs.size ls.length).map fun _ => Value.none).toArray) }
abbrev zsZ (h : Heap) (ls : List Addr) : Heap := (zsO h ls).push { cls := .type "zip", data := .fields #[.none, .bool false, .bool false, .ref (zsIts h ls).objs.size, .ref (zsT h ls).objs.size] }
section
variable {s : Shared} {E : Value → Shared → Prop} {A : Around} {prog : Program} {w : World}
theorem zs_iters (ls : List Addr) (hl : ∀ l ∈ ls, ∃ its, s.heap.IsList l its) {Q : List Value → Shared → Prop} (q : Q (refsFrom s.heap.objs.size ls.length) { s with heap := zsIts s.heap ls }) :
    wpAny (model prog w) A (Builtin.SmallTypes.iterAll (ls.map Value.ref)) Q E s := by
  obtain ⟨hp, g, d, tk0, os⟩ := s
  unfold Builtin.SmallTypes.iterAll
  dsimp only
  refine wpAny_bind (wpAny_forIn_list _ (fun rest b s' => ∃ k g', b = (refsFrom hp.objs.size k).toArray ∧ rest = (ls.drop k).map Value.ref ∧ k ≤ ls.length ∧ s' = ⟨g', g, d, tk0, os⟩ ∧ g' = zsIts hp (ls.take k)) _ ?_ ?_ _ _ ⟨0, hp, rfl, rfl, Nat.zero_le _, rfl, rfl⟩)
  · rintro it rest b s' ⟨k, g', rfl, er, hk, rfl, rfl⟩
    have hk2 : k < ls.length := by
      rcases Nat.lt_or_ge k ls.length with q | q
      · exact q
      · rw [List.drop_eq_nil_of_le q] at er
        cases er
    rw [List.drop_eq_getElem_cons hk2, List.map_cons] at er
    cases er
    obtain ⟨its, hi⟩ := hl _ (List.getElem_mem hk2)
    have hi2 : (zsIts hp (ls.take k)).IsList ls[k] its := hi.at fun o e => zsIts_keep _ _ _ _ e
    refine wpAny_bind (wpAny_holding (wpAny_pyIter_list (s := ⟨zsIts hp (ls.take k), g, d, tk0, os⟩) hi2 (wpAny_pure ⟨k + 1, _, ?_, rfl, hk2, rfl, ?_⟩)))
    · show (refsFrom hp.objs.size k).toArray.push (.ref (zsIts hp (ls.take k)).objs.size) = _
      rw [zsIts_size, List.length_take, Nat.min_eq_left hk]
      simp [refsFrom, List.range'_concat]
    · show _ = zsIts hp (ls.take (k + 1))
      rw [List.take_add_one, List.getElem?_eq_getElem hk2]
      have app : ∀ (xs ys : List Addr) (h : Heap), zsIts h (xs ++ ys) = zsIts (zsIts h xs) ys := fun xs => by
        induction xs with
        | nil => intro ys h; rfl
        | cons x xs ih => intro ys h; exact ih ys _
      rw [app]
      rfl
  · rintro b s' ⟨k, g', rfl, er, hk, rfl, rfl⟩
    have ek : k = ls.length := by
      rcases Nat.lt_or_ge k ls.length with q | q
      · rw [List.drop_eq_getElem_cons q] at er
        cases er
      · omega
    subst ek
    rw [List.take_length]
    exact wpAny_pure q
end
end L2
namespace L2
open PySem PySem.Spec PyProof.Rows
theorem meets_zs (ls : List Addr) : Meets (Builtin.«zip.__new__» ⟨.type "zip" :: ls.map Value.ref, []⟩) (fun _ R s => ((∀ l ∈ ls, ∃ its, s.heap.IsList l its) ∧ ls.length ≤ 1000) ∧ R (.ok (.ret (.ref (zsO s.heap ls).objs.size))) { s with heap := zsZ s.heap ls }) := by
  refine .of_wp fun prog w A R s h => ?_
  obtain ⟨hp, g, d, tk, os⟩ := s
  obtain ⟨⟨hl, hr⟩, h⟩ := h
  have hsub := sub_zip
  have b1 : (refsFrom hp.objs.size ls.length).length ≤ sizeLine := by rw [refsFrom_len]; exact Nat.le_trans hr (by decide)
  have i1 : ∀ {A' : Around} {E : Value → Shared → Prop} {Q : List Value → Shared → Prop}, Q (refsFrom hp.objs.size ls.length) ⟨zsIts hp ls, g, d, tk, os⟩ → wpAny (model prog w) A' (Builtin.SmallTypes.iterAll (ls.map Value.ref)) Q E ⟨hp, g, d, tk, os⟩ := fun q => zs_iters (s := ⟨hp, g, d, tk, os⟩) ls hl q
  have t1 : ∀ {A' : Around} {E Q : Value → Shared → Prop}, Q (.ref (zsIts hp ls).objs.size) ⟨zsT hp ls, g, d, tk, os⟩ → wpAny (model prog w) A' (newTuple (refsFrom hp.objs.size ls.length)) Q E ⟨zsIts hp ls, g, d, tk, os⟩ := fun q => wpAny_newTuple q b1
  have t2 : ∀ {A' : Around} {E Q : Value → Shared → Prop}, Q (.ref (zsT hp ls).objs.size) ⟨zsO hp ls, g, d, tk, os⟩ → wpAny (model prog w) A' (newTuple ((refsFrom hp.objs.size ls.length).map fun _ => Value.none)) Q E ⟨zsT hp ls, g, d, tk, os⟩ := fun q => wpAny_newTuple q (by rw [List.length_map]; exact b1)
  wp_walk using i1, t1, t2
  exact ⟨_, rfl, h⟩
section
variable {s : Shared} {E : Value → Shared → Prop} {A : Around} {prog : Program} {w : World}
theorem zs_begins (ls : List Addr) (hl : ∀ l ∈ ls, ∃ its, s.heap.IsList l its) (hr : ls.length ≤ 1000) {Q : Value → Shared → Prop}
    (q : ∀ g, ZSt g s.heap.objs.size ls 0 → (∀ c o, s.heap.get? c = some o → g.get? c = some o) → Q (.ref (s.heap.objs.size + ls.length + 2)) { s with heap := g }) : wpAny (model prog w) A (call (.type "zip") (ls.map Value.ref)) Q E s := by
  refine callType_new F.called_zip (by decide) (zs_typeCall _) (zs_newCall _) (fun obj => zs_init obj _) F.entry_zip_new (meets_zs ls) ⟨⟨hl, hr⟩, ?_⟩
  have up : ∀ (g : Heap) (ob : Obj) c o', g.get? c = some o' → (g.push ob).get? c = some o' := fun g ob c o' e => Heap.get?_push_of_some _ e
  have n1 : (zsIts s.heap ls).objs.size = s.heap.objs.size + ls.length := zsIts_size ..
  have n2 : (zsT s.heap ls).objs.size = s.heap.objs.size + ls.length + 1 := (Heap.size_push ..).trans (by rw [n1])
  have n3 : (zsO s.heap ls).objs.size = s.heap.objs.size + ls.length + 2 := (Heap.size_push ..).trans (by rw [n2])
  have c3 : (zsZ s.heap ls).get? (zsO s.heap ls).objs.size = some { cls := .type "zip", data := .fields #[.none, .bool false, .bool false, .ref (zsIts s.heap ls).objs.size, .ref (zsT s.heap ls).objs.size] } := Heap.get?_push_size _ rfl
  have c2 : TupAt (zsZ s.heap ls) (zsT s.heap ls).objs.size ((refsFrom s.heap.objs.size ls.length).map fun _ => Value.none) := up _ _ _ _ (Heap.get?_push_size _ rfl)
  have c1 : TupAt (zsZ s.heap ls) (zsIts s.heap ls).objs.size (refsFrom s.heap.objs.size ls.length) := up _ _ _ _ (up _ _ _ _ (Heap.get?_push_size _ rfl))
  rw [n1, n2, n3] at c3
  rw [n2] at c2
  rw [n1] at c1
  show _ ∧ _
  rw [n3]
  refine ⟨⟨_, c3, rfl⟩, q _ ⟨fun j l e => ?_, c1, ⟨.none, false, .inl rfl, c3⟩, _, by rw [List.length_map, refsFrom_len], c2⟩ fun c o e => ?_⟩
  · exact (zsIts_at ls s.heap j l e).at fun o e => up _ _ _ _ (up _ _ _ _ (up _ _ _ _ e))
  · exact up _ _ _ _ (up _ _ _ _ (up _ _ _ _ (zsIts_keep _ _ _ _ e)))
end
/-- the columns of rows that stand at ls, c places each -/
def ItzS (K : PySem.W.Frag) (ls : List (Addr × List V)) (c : Nat) : It where
  go i H := (i < c ∧ ls ≠ []) ∧ ∀ p ∈ ls, SqL K H p.1 p.2 ∧ p.2.length = c
  yld i H v H' := ∃ T, (v = .ref T ∧ H T = none) ∧ H' = upd H T (.tup (ls.map fun p => p.2.getD i .non))
  stop i H := (ls = [] ∨ i = c) ∧ ∀ p ∈ ls, SqL K H p.1 p.2 ∧ p.2.length = c
theorem zs_self {prog : Program} {w : World} {A : Around} {E : Value → Shared → Prop} {s : Shared} {n i : Nat} {ls : List Addr} {Q : Value → Shared → Prop} (S : ZSt s.heap n ls i) (h : Q (.ref (n + ls.length + 2)) s) : wpAny (model prog w) A (pyIter (.ref (n + ls.length + 2))) Q E s := by
  obtain ⟨x, f, _, z⟩ := S.z
  have T : s.TypeIs (.ref (n + ls.length + 2)) "zip" := ⟨_, z, rfl⟩
  exact wpAny_pyIter_slot T F.slot_zip_iter (wpAny_call_entry F.slot_zip_iter T F.entry_zip_iter (show wpAny _ _ (ret (.ref (n + ls.length + 2))) _ _ s from wpAny_pure ⟨_, rfl, "zip", _, T, F.slot_zip_next.lookup, h⟩) (F.args_zip_iter_1 _))
theorem vals_pick : ∀ (ls : List (Addr × List V)) (h : Heap) (n c i : Nat), i < c → (∀ p ∈ ls, p.1 < n) → (∀ p ∈ ls, ∃ its, h.IsList p.1 its ∧ Vals p.2 its.toList ∧ its.size = c) → ∃ vals, Vals (ls.map fun p => p.2.getD i .non) vals ∧ ZDraw h n (ls.map Prod.fst) i vals
  | [], h, n, c, i, _, _, _ => ⟨[], .nil, rfl, fun j l e => by cases e⟩
  | p :: t, h, n, c, i, hi, lt, R => by
    obtain ⟨vs, r, L⟩ := vals_pick t h n c i hi (fun q hq => lt q (List.mem_cons_of_mem _ hq)) (fun q hq => R q (List.mem_cons_of_mem _ hq))
    obtain ⟨its, h1, rv, h2⟩ := R p (List.mem_cons_self ..)
    have l1 : p.2.length = c := by rw [rv.length, Array.length_toList, h2]
    have e1 : p.2[i]? = some (p.2.getD i .non) := by rw [List.getD_eq_getElem?_getD, List.getElem?_eq_getElem (by omega)]; rfl
    obtain ⟨u, eu, ru⟩ := rv.get e1
    refine ⟨u :: vs, .cons ru r, by rw [List.length_cons, L.1]; rfl, fun j l e => ?_⟩
    cases j with
    | zero =>
      cases e
      exact ⟨lt p (List.mem_cons_self ..), its, u, h1, by rw [← Array.getElem?_toList]; exact eu, rfl⟩
    | succ j => exact L.2 j l e
theorem turn_zs {P : Program} {w : World} {K : PySem.W.Frag} {nm : Str} {tpos : Pos} {n c : Nat} {ls : List (Addr × List V)} (lt : ∀ p ∈ ls, p.1 < n) (hr : ls.length ≤ 1000) :
    Turn P w K (.Name nm tpos) (ItzS K ls c) (List.range' n (ls.length + 3)) (n + ls.length + 2) (fun i h => ZSt h n (ls.map Prod.fst) i) := by
  have len : (ls.map Prod.fst).length = ls.length := List.length_map ..
  have cell : ∀ i h, ZSt h n (ls.map Prod.fst) i → ∀ b ∈ List.range' n (ls.length + 3), ∃ o, h.get? b = some o ∧ ∀ v, o.data ≠ .cell v := fun i h S b hb => by
    rw [List.mem_range'_1] at hb
    obtain ⟨x, f, _, z⟩ := S.z
    obtain ⟨us, _, e2⟩ := S.to
    have ti := S.ti
    rw [len] at z e2 ti
    by_cases h1 : b < n + ls.length
    · have hj : b - n < ls.length := by omega
      obtain ⟨o, e, _, d⟩ := S.its (b - n) (ls[b - n]).1 (by rw [List.getElem?_map, List.getElem?_eq_getElem hj]; rfl)
      rw [show n + (b - n) = b by omega] at e
      exact ⟨o, e, fun v q => nomatch d.symm.trans q⟩
    · by_cases h2 : b = n + ls.length
      · exact ⟨_, h2 ▸ ti, fun v q => by cases q⟩
      · by_cases h3 : b = n + ls.length + 1
        · exact ⟨_, h3 ▸ e2, fun v q => by cases q⟩
        · have h4 : b = n + ls.length + 2 := by omega
          exact ⟨_, h4 ▸ z, fun v q => by cases q⟩
  have rows : ∀ {X : Cx} {pins : List (Addr × Obj)} {s : Shared} {σ : L2.St} {H : Hp}, Inv X pins σ H s → (∀ p ∈ ls, SqL X.K H p.1 p.2 ∧ p.2.length = c) → ∀ p ∈ ls, ∃ its, s.heap.IsList p.1 its ∧ Vals p.2 its.toList ∧ its.size = c := fun I hq p hp => by
    obtain ⟨its, rv, pl, _⟩ := I.list (hq p hp).1
    exact ⟨its.toArray, pl.isList, rv, by rw [List.size_toArray, ← rv.length, (hq p hp).2]⟩
  refine ⟨by rw [List.mem_range'_1]; omega, cell, fun i h h' S k => S.keep fun b o l1 l2 e => k b (by rw [List.mem_range'_1]; rw [len] at l2; omega) o e, fun X hP hw hK hc i pins s σ H E I hf st hg => ?_, fun X hP hw hK hc i pins s σ H E I hf st hg => ?_, fun A i s Q E st h => ?_⟩
  · subst hP hw hK
    obtain ⟨⟨hi, hne⟩, hq⟩ := hg
    obtain ⟨vals, rv, L⟩ := vals_pick ls s.heap n c i hi lt (rows I hq)
    have N : ls.map Prod.fst ≠ [] := fun q => hne (List.map_eq_nil_iff.mp q)
    have B : (ls.map Prod.fst).length ≤ 1000 := by rw [len]; exact hr
    have main := zs_next_item (prog := X.prog) (w := X.w) (A := X.A) (E := E) (Q := fun r s1 => ∃ u, r = some u ∧ wpAny (model X.prog X.w) X.A (letOwnedTupleGo (.Name nm tpos) (.ref (n + ls.length + 2)) u) (fun _ s2 => ∃ x H', Inv X pins σ H' s2 ∧ RelV x u ∧ (ItzS X.K ls c).yld i H x H' ∧ ZSt s2.heap n (ls.map Prod.fst) (i + 1) ∧ ∀ b ∈ List.range' n (ls.length + 3), H' b = none) E s1)
      st L N B fun h' S' T far => ⟨_, rfl, wpAny_pure ?_⟩
    · rw [len] at main
      exact main
    rw [len] at far
    have lay : ObjOk X.prog X.w (upd H s.heap.objs.size (.tup (ls.map fun p => p.2.getD i .non))) h' s.heap.objs.size (.tup (ls.map fun p => p.2.getD i .non)) := ⟨by show (ls.map _).length ≤ sizeLine; rw [List.length_map]; exact Nat.le_trans hr (by decide), _, rv, ⟨_, T, rfl, _, rfl⟩⟩
    have J : Inv X pins σ (upd H s.heap.objs.size (.tup (ls.map fun p => p.2.getD i .non))) { s with heap := h' } := I.turnedNew (t' := s.toks) (ch := List.range' n (ls.length + 3)) (fun b o hb e => far b o (by rw [List.mem_range'_1] at hb; omega) e) hf (Nat.le_refl _) lay
    refine ⟨.ref s.heap.objs.size, _, J, rfl, ⟨_, ⟨rfl, I.hok.fresh (Nat.le_refl _)⟩, rfl⟩, S', fun b hb => ?_⟩
    obtain ⟨o, eo, _⟩ := cell i _ st b hb
    rw [upd_ne (Nat.ne_of_lt (Heap.lt_size eo))]
    exact (hf b hb).1
  · subst hP hw hK
    obtain ⟨hend, hq⟩ := hg
    have R := rows I hq
    have R2 : ls.map Prod.fst = [] ∨ ∃ l its, (ls.map Prod.fst)[0]? = some l ∧ l < n ∧ s.heap.IsList l its ∧ its[i]? = none := by
      cases ls with
      | nil => exact .inl rfl
      | cons p t =>
        obtain ⟨its, h1, _, h2⟩ := R p (List.mem_cons_self ..)
        refine .inr ⟨p.1, its, rfl, lt p (List.mem_cons_self ..), h1, Array.getElem?_eq_none ?_⟩
        rcases hend with q | q
        · cases q
        · omega
    have := zs_next_end (prog := X.prog) (w := X.w) (A := X.A) (E := E) (Q := fun r s1 => r = none ∧ Inv X pins σ H s1) (I.ok.hd hc) st R2 fun h' hk => ⟨rfl, I.turnedL (t' := s.toks) (ch := List.range' n (ls.length + 3)) (fun b o hb e => hk b o (by rw [List.mem_range'_1] at hb; rw [len]; omega) e) hf⟩
    rw [len] at this
    exact this
  · have := zs_self (E := E) (Q := Q) (A := A) (s := s) (prog := P) (w := w) st (by rw [len]; exact h)
    rw [len] at this
    exact this
def iZipS (K : PySem.W.Frag) (te : TE) : TI := fun σ H R => te σ H fun v H1 => ∃ a c, ∃ ls : List (Addr × List V), v = .ref a ∧ SqL K H1 a (ls.map fun p => .ref p.1) ∧ (∀ p ∈ ls, SqL K H1 p.1 p.2 ∧ p.2.length = c) ∧ ls.length ≤ 1000 ∧ R (ItzS K ls c) H1
theorem pi_zipS {X : Cx} {e : Expr} {te : TE} {p p2 pos tpos : Pos} {nm : Str} (hg : Gl X "zip") (hm : X.mg "zip" = none) (he : PE X e te)
    (hs : starEach [.Starred e p2] X.env = [(true, eval e X.env)] := by rfl) : PI X (.Name nm tpos) (.Call (.Name "zip" p) [.Starred e p2] [] pos) (iZipS X.K te) := by
  refine ⟨fun pins s σ H R I h => Call_ (ld_blt I hg hm PyProof.Rows.boot_zip ?_)⟩
  rw [hs]
  refine PySem.W.ks_call (P := fun _ => True) rfl (fun _ _ => ⟨_, .inr (.inl rfl), PySem.W.Looks.of_pure rfl⟩) (PySem.W.ks_lone (thn (he.run pins s σ H _ I h) fun u t ⟨v, G, J, rv, q⟩ => ?_))
  obtain ⟨a, c, ls, rfl, qa, ql, hl, q⟩ := q
  obtain rfl : u = Value.ref a := rv
  refine StX.star_any J (.inr qa) fun us s2 J2 rv2 => ⟨trivial, ?_⟩
  have eu : ∀ (ls : List (Addr × List V)) (us : List Value), Vals (ls.map fun p => V.ref p.1) us → us = (ls.map Prod.fst).map Value.ref := by
    intro ls
    induction ls with
    | nil => intro us r; cases r; rfl
    | cons p t ih => intro us r; cases r with | cons r rr => cases r; rw [ih _ rr]; rfl
  rw [eu _ _ rv2]
  have ok : ∀ p ∈ ls, ∃ its, s2.heap.IsList p.1 its ∧ p.1 < s2.heap.objs.size := fun p hp => by
    obtain ⟨its, _, pl, _⟩ := J2.list (ql p hp).1
    exact ⟨its.toArray, pl.isList, pl.lt⟩
  have main := zs_begins (prog := X.prog) (w := X.w) (A := X.A) (E := X.xe) (s := s2) (ls.map Prod.fst) (fun l hl => by
    obtain ⟨p, hp, rfl⟩ := List.mem_map.mp hl
    obtain ⟨its, h1, _⟩ := ok p hp
    exact ⟨its, h1⟩) (by rw [List.length_map]; exact hl) (Q := fun v s1 => wpAny (model X.prog X.w) X.A (pyIter v) (PIE X pins σ (.Name nm tpos) R) X.xe s1) fun g S hk => zs_self S ?_
  · exact main
  rw [List.length_map] at *
  refine ⟨_, List.range' s2.heap.objs.size (ls.length + 3), _, _, G, rfl, J2.kept (t' := s2.toks) hk, turn_zs (n := s2.heap.objs.size) (c := c) (fun p hp => by obtain ⟨_, _, l⟩ := ok p hp; exact l) hl, S, fun b hb => ?_, q⟩
  rw [List.mem_range'_1] at hb
  exact J2.fpOk hb.1 (J2.hok.fresh hb.1)
theorem walk_zipS {K : PySem.W.Frag} {ls : List (Addr × List V)} {c : Nat} (hne : ls = [] → c = 0) : Walk (ItzS K ls c) c (fun H => ∀ p ∈ ls, SqL K H p.1 p.2 ∧ p.2.length = c) (fun i H v H' => ∃ T, (v = .ref T ∧ H T = none) ∧ H' = upd H T (.tup (ls.map fun p => p.2.getD i .non))) :=
  ⟨fun i H hi q => ⟨⟨hi, fun z => by have := hne z; omega⟩, q⟩, fun H q => ⟨.inr rfl, q⟩, fun i H v H' _ q y => y⟩
end L2

namespace E1
open PySem PySem.Spec PyProof.Rows L2

theorem rep_all (n : Nat) : (List.replicate n true).all id = true := by
  rw [List.all_eq_true]
  intro x h
  exact (List.mem_replicate.mp h).2
theorem PrL_get {H : Hp} {vs : List V} {ps : List (Int × Int)} (h : PrsAt H vs ps) {i : Nat} {v : V} (e : vs[i]? = some v) : ∃ p t b, v = .ref p ∧ ps[i]? = some (t, b) ∧ (t, b) ∈ ps ∧ H p = some (.tup [.int t, .int b]) := by
  obtain ⟨p, t, b, e1, e2, e3⟩ := h.get e
  exact ⟨p, t, b, e1, e2, List.mem_of_getElem? e2, e3⟩
/-- pairs whose bottoms are above 0 and divide D -/
def Btm (D : Int) (ps : List (Int × Int)) : Prop := D ≠ 0 ∧ D.natAbs < 2 ^ 2000 ∧ ∀ p ∈ ps, 0 < p.2 ∧ p.2 ∣ D ∧ p.1.natAbs < 2 ^ 3000
theorem Btm.lt {D : Int} {ps : List (Int × Int)} (h : Btm D ps) {b : Int} (hb : 0 < b) (d : b ∣ D) : b.natAbs < 2 ^ 2000 := by
  have : b.natAbs ∣ D.natAbs := Int.natAbs_dvd_natAbs.mpr d
  have := Nat.le_of_dvd (by have := h.1; omega) this
  exact Nat.lt_of_le_of_lt this h.2.1
theorem Btm.com {D : Int} {ps : List (Int × Int)} (h : Btm D ps) : 0 < com (ps.map (·.2)) ∧ com (ps.map (·.2)) ∣ D ∧ ∀ p ∈ ps, p.2 ∣ com (ps.map (·.2)) := by
  have hp : ∀ b ∈ ps.map (·.2), 0 < b ∧ b ∣ D := fun b hb => by
    obtain ⟨p, h1, rfl⟩ := List.mem_map.mp hb
    exact ⟨(h.2.2 p h1).1, (h.2.2 p h1).2.1⟩
  obtain ⟨c1, _, c3, c4⟩ := com_ok (ps.map (·.2)) 1 (by decide) fun b hb => (hp b hb).1
  exact ⟨c1, c4 D (Int.one_dvd D) fun b hb => (hp b hb).2, fun p hp' => c3 _ (List.mem_map.mpr ⟨p, hp', rfl⟩)⟩
theorem Btm.take {D : Int} {ps : List (Int × Int)} (h : Btm D ps) (n : Nat) : Btm D (ps.take n) := ⟨h.1, h.2.1, fun p hp => h.2.2 p (List.mem_of_mem_take hp)⟩
def spIsFrs : Sp := fun vs H Q _ => ∃ (a : Addr) (qs : List Rat), vs = [.ref a] ∧ FrL H a qs ∧ qs.length ≤ 1000 ∧ ∀ H', Same H H' → Q (.bl true) H'
def spCom : Sp := fun vs H Q _ => ∃ (a : Addr) (ws : List V) (ps : List (Int × Int)) (D : Int), vs = [.ref a] ∧ H a = some (.lst ws) ∧ PrsAt H ws ps ∧ Btm D ps ∧ Q (.int (com (ps.map (·.2)))) H
def spCleared : Sp := fun vs H Q _ => ∃ (a : Addr) (ws : List V) (ps : List (Int × Int)) (D : Int), vs = [.ref a] ∧ H a = some (.lst ws) ∧ PrsAt H ws ps ∧ Btm D ps ∧ ps.length ≤ 1000 ∧
  ∀ T l H', H l = none → H T = none → Same H H' → H' T = some (.tup [.ref l, .int (com (ps.map (·.2)))]) → H' l = some (.lst ((tops (com (ps.map (·.2))) ps).map V.int)) → Q (.ref T) H'
theorem FrL.len {H : Hp} {a : Addr} {qs : List Rat} (h : FrL H a qs) : ∃ vs, H a = some (.lst vs) ∧ vs.length = qs.length ∧ FrsAt H vs qs := by
  obtain ⟨vs, e, r⟩ := h
  exact ⟨vs, e, FrsAt.len r, r⟩

/-- // by a whole number other than 0 -/
def CDivNW (_ j : Int) : Prop := j ≠ 0 ∧ j.natAbs.log2 < 9000
theorem op_fdivNW {X : Cx} : OpR X (binaryOp .FloorDiv) (rI CDivNW fun i j => .int (i.fdiv j)) := opI fun _ _ _ _ _ _ _ hc q => floordiv_int hc.1 q (.inl (PyProof.noPylong_of_log2 hc.2))
theorem wide_divN {i j : Int} {b : Nat} (h : j ≠ 0) (hb : j.natAbs < 2 ^ b) (h0 : 0 < b) (h9 : b ≤ 9000) : CDivNW i j := ⟨h, Nat.lt_of_lt_of_le (PySem.Flt.log2_lt_of h0 hb) h9⟩
theorem iteC {c d : Bool} {A B : Prop} (e : c = d) (h : if d = true then A else B) : if c = true then A else B := e ▸ h
def dotZ : List Int → List Int → Int
  | x :: xs, y :: ys => x * y + dotZ xs ys
  | _, _ => 0
def mulZ : List Int → List Int → List Int
  | x :: xs, y :: ys => x * y :: mulZ xs ys
  | _, _ => []
theorem mulZ_sum : ∀ xs ys : List Int, (mulZ xs ys).sum = dotZ xs ys
  | [], ys => by cases ys <;> rfl
  | x :: xs, [] => rfl
  | x :: xs, y :: ys => by
    show (x * y :: mulZ xs ys).sum = x * y + dotZ xs ys
    rw [List.sum_cons, mulZ_sum xs ys]
theorem mulZ_len : ∀ xs ys : List Int, (mulZ xs ys).length = min xs.length ys.length
  | [], ys => by cases ys <;> simp [mulZ]
  | x :: xs, [] => by simp [mulZ]
  | x :: xs, y :: ys => by
    show (mulZ xs ys).length + 1 = min (xs.length + 1) (ys.length + 1)
    rw [mulZ_len xs ys]
    omega
theorem mulZ_take : ∀ (xs ys : List Int) (i : Nat) (x y : Int), xs[i]? = some x → ys[i]? = some y → mulZ (xs.take (i + 1)) (ys.take (i + 1)) = mulZ (xs.take i) (ys.take i) ++ [x * y]
  | a :: xs, b :: ys, 0, x, y, h1, h2 => by
    cases h1
    cases h2
    rfl
  | a :: xs, b :: ys, i + 1, x, y, h1, h2 => by
    show a * b :: mulZ (xs.take (i + 1)) (ys.take (i + 1)) = a * b :: (mulZ (xs.take i) (ys.take i) ++ [x * y])
    rw [mulZ_take xs ys i x y h1 h2]
  | [], _, _, _, _, h1, _ => by cases h1
  | _ :: _, [], _, _, _, _, h2 => by cases h2
def Bits (n : Nat) (xs : List Int) : Prop := ∀ x ∈ xs, x.natAbs < 2 ^ n
def spDot : Sp := fun vs H Q _ => ∃ (a c : Addr) (xs ys : List Int), vs = [.ref a, .ref c] ∧ H a = some (.lst (xs.map V.int)) ∧ H c = some (.lst (ys.map V.int)) ∧ xs.length ≤ 1000 ∧ Bits 4000 xs ∧ Bits 4000 ys ∧ ∀ H', Same H H' → Q (.int (dotZ xs ys)) H'
/-- rows of whole numbers -/
def RwL (H : Hp) (vs : List V) (rs : List (List Int)) : Prop := vs.length = rs.length ∧ ∀ (i : Nat) (r : List Int), rs[i]? = some r → ∃ b, vs[i]? = some (.ref b) ∧ H b = some (.lst (r.map V.int))
theorem RwL.same {H H' : Hp} {vs : List V} {ss : List (List Int)} (h : RwL H vs ss) (s : Same H H') : RwL H' vs ss := ⟨h.1, fun i x e => let ⟨b, e1, f⟩ := h.2 i x e; ⟨b, e1, s _ _ f⟩⟩
theorem RwL.get {H : Hp} {vs : List V} {ss : List (List Int)} (h : RwL H vs ss) {i : Nat} {v : V} (e : vs[i]? = some v) : ∃ b s, v = .ref b ∧ ss[i]? = some s ∧ H b = some (.lst (s.map V.int)) := by
  have hi := (List.getElem?_eq_some_iff.mp e).1
  have e2 : ss[i]? = some (ss[i]'(by rw [← h.1]; exact hi)) := List.getElem?_eq_getElem _
  obtain ⟨b, e3, f⟩ := h.2 i _ e2
  rw [e] at e3
  cases e3
  exact ⟨b, _, rfl, e2, f⟩
theorem RwL.app {H : Hp} {vs us : List V} {ss ts : List (List Int)} (h : RwL H vs ss) (g : RwL H us ts) : RwL H (vs ++ us) (ss ++ ts) := by
  refine ⟨by rw [List.length_append, List.length_append, h.1, g.1], fun i s e => ?_⟩
  by_cases c : i < ss.length
  · rw [List.getElem?_append_left c] at e
    rw [List.getElem?_append_left (by rw [h.1]; exact c)]
    exact h.2 i s e
  · rw [List.getElem?_append_right (by omega)] at e
    rw [List.getElem?_append_right (by rw [h.1]; omega), h.1]
    exact g.2 _ s e
theorem RwL.one {H : Hp} {b : Addr} {s : List Int} (h : H b = some (.lst (s.map V.int))) : RwL H [.ref b] [s] := by
  refine ⟨rfl, fun i t e => ?_⟩
  match i with
  | 0 => cases e; exact ⟨b, rfl, h⟩
  | i + 1 => cases e
theorem RwL.drop {H : Hp} {vs : List V} {ss : List (List Int)} (h : RwL H vs ss) (n : Nat) : RwL H (vs.drop n) (ss.drop n) := by
  refine ⟨by rw [List.length_drop, List.length_drop, h.1], fun i s e => ?_⟩
  rw [List.getElem?_drop] at e ⊢
  exact h.2 _ s e
theorem RwL.take {H : Hp} {vs : List V} {ss : List (List Int)} (h : RwL H vs ss) (n : Nat) : RwL H (vs.take n) (ss.take n) := by
  refine ⟨by rw [List.length_take, List.length_take, h.1], fun i s e => ?_⟩
  rw [List.getElem?_take] at e ⊢
  split at e
  · rw [if_pos (by assumption)]
    exact h.2 _ s e
  · cases e
theorem RwL.set {H : Hp} {vs : List V} {ss : List (List Int)} (h : RwL H vs ss) {k : Nat} {b : Addr} {s : List Int} (f : H b = some (.lst (s.map V.int))) : RwL H (vs.set k (.ref b)) (ss.set k s) := by
  refine ⟨by rw [List.length_set, List.length_set, h.1], fun i t e => ?_⟩
  rw [List.getElem?_set] at e ⊢
  split at e
  · rename_i c
    rw [if_pos c]
    split at e
    · rename_i c2
      cases e
      rw [if_pos (by rw [h.1]; exact c2)]
      exact ⟨b, rfl, f⟩
    · cases e
  · rename_i c
    rw [if_neg c]
    exact h.2 i t e
/-- a list of rows is no row of numbers -/
theorem RwL.but {H H' : Hp} {D : Addr} {us vs : List V} {ss : List (List Int)} (h : RwL H vs ss) (hD : H D = some (.lst us)) (n : ∀ v ∈ vs, v ≠ .ref D) (t : SameBut D H H') : RwL H' vs ss :=
  ⟨h.1, fun i s e => let ⟨b, e1, f⟩ := h.2 i s e; ⟨b, e1, t _ _ (fun z => n _ (List.mem_of_getElem? e1) (by rw [z])) f⟩⟩
section
variable {P : Program} {w : World} {K : PySem.W.Frag} {mg : Str → Option Value} {base : Heap}
theorem sc_is_fractions : FnScope ["thing", "one"] ["thing"] (defScope s_is_fractions) := ⟨rfl, rfl, rfl, by decide +kernel, rfl, by decide +kernel, by decide +kernel⟩
theorem ok_is_fractions {f : Addr} {fd : FuncData} (F : Fun K "is_fractions" "is_fractions" s_is_fractions f fd) (z : Zs mg) (c_is_fraction : Cal P w K mg base 2 "is_fraction" ["thing"] spIsFrac) : FnOk P w K mg base CX0 3 f fd ["thing"] spIsFrs := by
  refine F.ok sc_is_fractions (fun vs H Q E h => ?_) (fun cdv A outer s H vs Q E hr h => ?_)
  · obtain ⟨a, qs, rfl, _⟩ := h
    rfl
  · obtain ⟨a, qs, rfl, ⟨vs, ha, hq⟩, hl, q⟩ := h
    refine ⟨_, (pss_one (ps_ret (pe_and (pe_callB call_isi (by rfl) z.isinstance (by decide +kernel) (pa_cons (pv 0) (pa_cons (pe_bltn (v := .ty "list") (by rfl) z.list (by decide +kernel) rfl) pa_nil))) (pe_one (pe_callB (cr_all rfl) (by rfl) z.all (by decide +kernel) (pa_cons (pe_lc (own := [("one", 1)]) (g := gName 1) (tt := tYes) (te := (tCall spIsFrac [] E0 (tCons (tVar 1) tNil))) (by rfl) sc_is_fractions.nd (pi_list (pv 0)) (blkOk_by (own := [("one", 1)]) (N := ["thing", "one"]) (sc := defScope s_is_fractions) (by decide +kernel)) (fun _ _ _ _ _ => by exact (pg_name (i := 1) sc_is_fractions.nd rfl (.inl rfl))) (fun _ _ _ _ _ => by exact pts_nil) (fun _ _ _ _ _ => by exact (pe_cal c_is_fraction hr (pa_cons (pv 1) pa_nil)))) pa_nil)))))), ?_⟩
    have hlen := FrsAt.len hq
    refine ⟨_, rfl, _, .ty "list", _, _, true, rfl, .ty _, .base (.lst ha), kit_ty (by decide +kernel), _, rfl, iteT ⟨_, rfl, a, rfl, ⟨_, SqL.of ha⟩, fun D hD => lc_list (K := K) (a := a) (xs := vs) (fun i H' => Same H H' ∧ H' D = some (.lst (List.replicate i (V.bl true)))) ⟨same_new hD, upd_same⟩ (fun i H' _ hP => SqL.of (hP.1 _ _ ha)) (fun i x H' hx hP => ?_) (fun H' hP => ?_)⟩⟩
    · obtain ⟨s1, hacc⟩ := hP
      obtain ⟨p, r, rfl, hr', hp⟩ := FrsAt.get hq hx
      have hi := (List.getElem?_eq_some_iff.mp hx).1
      have d0 := den_ge r
      refine ⟨rfl, _, rfl, p, r.num, r.den, rfl, s1 _ _ hp, by omega, ?_⟩
      rw [q_gcd, decide_eq_true rfl]
      refine ⟨_, hacc, ?_, fun b o e => ?_, ?_⟩
      · rw [List.length_replicate]
        exact small1000 (by omega)
      · rw [upd_ne (ne_of_none e hD)]
        exact s1 _ _ e
      · rw [upd_same, List.replicate_succ']
    · obtain ⟨s1, hacc⟩ := hP
      refine ⟨D, List.replicate _ true, rfl, SqL.of (by rw [List.map_replicate]; exact hacc), ?_⟩
      rw [rep_all]
      exact q _ s1
theorem sc_common_bottom : FnScope ["pairs", "common", "pair"] ["pairs"] (defScope s_common_bottom) := ⟨rfl, rfl, rfl, by decide +kernel, rfl, by decide +kernel, by decide +kernel⟩
theorem ok_common_bottom {f : Addr} {fd : FuncData} (F : Fun K "common_bottom" "common_bottom" s_common_bottom f fd) (z : Zs mg) (c_shared_divisor : Cal P w K mg base 1 "shared_divisor" ["top", "bottom"] spShared) : FnOk P w K mg base CX0 2 f fd ["pairs"] spCom := by
  refine F.ok sc_common_bottom (fun vs H Q E h => ?_) (fun cdv A outer s H vs Q E hr h => ?_)
  · obtain ⟨a, ws, ps, D, rfl, _⟩ := h
    rfl
  · obtain ⟨a, ws, ps, D, rfl, ha, hp0, hB, q⟩ := h
    refine ⟨_, (pss_cons (ps_set (i := 1) sc_common_bottom.nd rfl (.inl rfl) pe_int)
      (pss_cons (ps_for PassesOwn.never rfl (pi_list (pv 0)) (pg_name (i := 2) sc_common_bottom.nd rfl (.inl rfl)) (pss_one (ps_if (pt_truth (pe_op op_mod (pv 1) (pe_ix ix_tup (pv 2) pe_int (fun _ _ => rfl))) (by intro _; rfl)) (pss_one (ps_set (i := 1) sc_common_bottom.nd rfl (.inl rfl) (pe_op op_mulW (pe_op op_fdivW (pv 1) (pe_cal c_shared_divisor hr (pa_cons (pv 1) (pa_cons (pe_ix ix_tup (pv 2) pe_int (fun _ _ => rfl)) pa_nil)))) (pe_ix ix_tup (pv 2) pe_int (fun _ _ => rfl))))) pss_nil)))
      (pss_one (ps_ret (pv 1))))), ?_⟩
    have hlen := hp0.len
    refine ⟨_, rfl, a, rfl, ⟨_, SqL.of ha⟩, for_list (K := K) (a := a) (xs := ws) (fun i σ H' => H' = H ∧ ∃ y : Option V, σ = [some (.ref a), some (.int (com ((ps.take i).map (·.2)))), y]) ⟨rfl, none, rfl⟩ (fun i σ H' _ hP => hP.1 ▸ SqL.of ha) (fun i x σ H' hx hP => ?_) (fun σ H' hP => ?_)⟩
    · obtain ⟨rfl, y, rfl⟩ := hP
      obtain ⟨p, t, b, rfl, hi, hm, hp⟩ := PrL_get hp0 hx
      obtain ⟨b0, bD, _⟩ := hB.2.2 _ hm
      obtain ⟨c0, cD, _⟩ := (hB.take i).com
      have b1 := hB.lt b0 bD
      have c1 := hB.lt c0 cD
      have e : com ((ps.take (i + 1)).map (·.2)) = lcmI (com ((ps.take i).map (·.2))) b := by
        rw [List.take_succ, hi, Option.toList_some, List.map_append]
        unfold com
        rw [List.foldl_append]
        rfl
      generalize hc : com ((ps.take i).map (·.2)) = c at *
      refine ⟨_, rfl, _, rfl, p, _, 1, .int b, rfl, rfl, SqT.of hp, a1, _, _, rfl, rfl, (by show 0 < b; exact b0), _, rfl, ?_⟩
      by_cases c2 : c % b = 0
      · rw [c2]
        refine iteF ⟨rfl, some (.ref p), ?_⟩
        rw [e]
        unfold lcmI
        rw [if_pos c2]
        rfl
      · have ne : (c % b != 0) = true := by
          rw [bne_iff_ne]
          exact c2
        rw [ne]
        have g0 := gI_pos (t := c) (b := b) (by omega)
        have g1 : (gI c b).natAbs < 2 ^ 2000 := Nat.lt_of_le_of_lt (gI_le (by omega)) b1
        have q1 : (c / gI c b).natAbs < 2 ^ 2000 := by
          have h1 : 0 ≤ c / gI c b := Int.ediv_nonneg (by omega) (by omega)
          have h2 : c / gI c b ≤ c := Int.ediv_le_self _ (by omega)
          omega
        refine iteT ⟨_, rfl, _, rfl, _, rfl, p, _, 1, .int b, rfl, rfl, SqT.of hp, a1, c, b, rfl, by omega, _, _, rfl, rfl, wide_div g0 g1 (by decide) (by decide), _, rfl, p, _, 1, .int b, rfl, rfl, SqT.of hp, a1, _, _, rfl, rfl, wide_mul q1 b1 (by decide) (by decide) (by decide), rfl, some (.ref p), ?_⟩
        rw [e]
        unfold lcmI
        rw [if_neg c2]
        rfl
    · obtain ⟨rfl, y, rfl⟩ := hP
      rw [hlen, List.take_length]
      exact ⟨_, rfl, q⟩
theorem sc_cleared : FnScope ["pairs", "common", "top", "bottom"] ["pairs"] (defScope s_cleared) := ⟨rfl, rfl, rfl, by decide +kernel, rfl, by decide +kernel, by decide +kernel⟩
theorem ok_cleared {f : Addr} {fd : FuncData} (F : Fun K "cleared" "cleared" s_cleared f fd) (c_common_bottom : Cal P w K mg base 2 "common_bottom" ["pairs"] spCom) : FnOk P w K mg base CX0 3 f fd ["pairs"] spCleared := by
  refine F.ok sc_cleared (fun vs H Q E h => ?_) (fun cdv A outer s H vs Q E hr h => ?_)
  · obtain ⟨a, ws, ps, D, rfl, _⟩ := h
    rfl
  · obtain ⟨a, ws, ps, D, rfl, ha, hp0, hB, hl, q⟩ := h
    refine ⟨_, (pss_cons (ps_set (i := 1) sc_cleared.nd rfl (.inr rfl) (pe_cal c_common_bottom hr (pa_cons (pv 0) pa_nil)))
      (pss_one (ps_ret (pe_tup (pa_cons (pe_lc (own := [("top", 2), ("bottom", 3)]) (g := gTup K 2 (gCons (gName 2) (gCons (gName 3) gNil))) (tt := tYes) (te := (tOp (rI CMulW fun i j => V.int (i * j)) (tVar 2) (tOp (rI CDivW fun i j => V.int (i / j)) (tVar 1) (tVar 3)))) (by rfl) sc_cleared.nd (pi_list (pv 0)) (blkOk_by (own := [("top", 2), ("bottom", 3)]) (N := ["pairs", "common", "top", "bottom"]) (sc := defScope s_cleared) (by decide +kernel)) (fun _ _ _ _ _ => by exact (pg_tup (by rfl) (pgs_cons (pg_name (i := 2) sc_cleared.nd rfl (.inl rfl)) (pgs_cons (pg_name (i := 3) sc_cleared.nd rfl (.inl rfl)) pgs_nil)))) (fun _ _ _ _ _ => by exact pts_nil) (fun _ _ _ _ _ => by exact (pe_op op_mulW (pv 2) (pe_op op_fdivW (pv 1) (pv 3))))) (pa_cons (pv 1) pa_nil)))))), ?_⟩
    have hlen := hp0.len
    obtain ⟨c0, cD, cdv⟩ := hB.com
    have c1 := hB.lt c0 cD
    refine ⟨_, rfl, a, ws, ps, D, rfl, ha, hp0, hB, ?_⟩
    generalize com (ps.map (·.2)) = c at *
    refine ⟨_, rfl, a, rfl, ⟨_, SqL.of ha⟩, fun l hD => lc_list (K := K) (a := a) (xs := ws) (fun i H' => Same H H' ∧ H' l = some (.lst ((tops c (ps.take i)).map V.int))) ⟨same_new hD, upd_same⟩ (fun i H' _ hP => SqL.of (hP.1 _ _ ha)) (fun i x H' hx hP => ?_) (fun H' hP => ?_)⟩
    · obtain ⟨s1, hacc⟩ := hP
      obtain ⟨p, t, b, rfl, hi, hm, hp⟩ := PrL_get hp0 hx
      obtain ⟨b0, bD, t1⟩ := hB.2.2 _ hm
      have b1 := hB.lt b0 bD
      have li := (List.getElem?_eq_some_iff.mp hi).1
      have q1 : (c / b).natAbs < 2 ^ 2000 := by
        have h1 : 0 ≤ c / b := Int.ediv_nonneg (by omega) (by omega)
        have h2 : c / b ≤ c := Int.ediv_le_self _ (by omega)
        omega
      refine ⟨p, [.int t, .int b], rfl, SqT.of (s1 _ _ hp), rfl, _, _, rfl, _, _, rfl, rfl, rfl, ?_⟩
      refine ⟨_, rfl, _, rfl, _, rfl, _, _, rfl, rfl, wide_div b0 b1 (by decide) (by decide), _, _, rfl, rfl, wide_mul t1 q1 (by decide) (by decide) (by decide), _, hacc, ?_, fun b' o e => ?_, ?_⟩
      · unfold tops
        rw [List.length_map, List.length_map, List.length_take]
        exact small1000 (by omega)
      · rw [upd_ne (ne_of_none e hD)]
        exact s1 _ _ e
      · rw [upd_same, List.take_succ, hi, Option.toList_some]
        unfold tops
        rw [List.map_append, List.map_append]
        rfl
    · obtain ⟨s1, hacc⟩ := hP
      rw [hlen, List.take_length] at hacc
      refine ⟨_, rfl, (by show 2 ≤ sizeLine; decide), fun T hT => ?_⟩
      exact q T l _ hD (s1.free hT) (s1.trans (same_new hT)) upd_same (same_new hT _ _ hacc)
theorem sc_dot : FnScope ["numbers", "others", "number", "other"] ["numbers", "others"] (defScope s_dot) := ⟨rfl, rfl, rfl, by decide +kernel, rfl, by decide +kernel, by decide +kernel⟩
theorem ok_dot {f : Addr} {fd : FuncData} {k : Nat} (F : Fun K "dot" "dot" s_dot f fd) (z : Zs mg) : FnOk P w K mg base CX0 (k + 1) f fd ["numbers", "others"] spDot := by
  refine F.ok sc_dot (fun vs H Q E h => ?_) (fun cdv A outer s H vs Q E hr h => ?_)
  · obtain ⟨a, c, xs, ys, rfl, _⟩ := h
    rfl
  · obtain ⟨a, c, xs, ys, rfl, ha, hc, hl, b1, b2, k⟩ := h
    refine ⟨_, (pss_one (ps_ret (pe_callB (cr_sum rfl) (by rfl) z.sum (by decide +kernel) (pa_cons (pe_lc (own := [("number", 2), ("other", 3)]) (g := gTup K 2 (gCons (gName 2) (gCons (gName 3) gNil))) (tt := tYes) (te := (tOp (rI CMulW fun i j => V.int (i * j)) (tVar 2) (tVar 3))) (by rfl) sc_dot.nd (RZ.pi_zipA (by rfl) z.zip (pa_cons (pv 0) (pa_cons (pv 1) pa_nil))) (blkOk_by (own := [("number", 2), ("other", 3)]) (N := ["numbers", "others", "number", "other"]) (sc := defScope s_dot) (by decide +kernel)) (fun _ _ _ _ _ => by exact (pg_tup (by rfl) (pgs_cons (pg_name (i := 2) sc_dot.nd rfl (.inl rfl)) (pgs_cons (pg_name (i := 3) sc_dot.nd rfl (.inl rfl)) pgs_nil)))) (fun _ _ _ _ _ => by exact pts_nil) (fun _ _ _ _ _ => by exact (pe_op op_mulW (pv 2) (pv 3)))) pa_nil)))), ?_⟩
    refine ⟨_, rfl, _, rfl, a, c, _, _, rfl, .inl ⟨SqL.of ha, SqL.of hc, fun D hD => ?_⟩⟩
    refine lc_it (walk_zip (K := K) (a := a) (b := c) (xs := xs.map V.int) (ys := ys.map V.int) rfl) (fun i H2 => Same H H2 ∧ H2 D = some (.lst ((mulZ (xs.take i) (ys.take i)).map V.int))) ⟨same_new hD, by rw [List.take_zero]; exact upd_same⟩ (fun i H2 _ hP => ⟨SqL.of (hP.1 _ _ ha), SqL.of (hP.1 _ _ hc)⟩) (fun i x H2 H3 hi hP hY => ?_) (fun H2 hP => ?_)
    · obtain ⟨s1, hacc⟩ := hP
      obtain ⟨Tp, u, v, rfl, nT, rfl, e1, e2⟩ := hY
      replace e1 : (xs.map V.int)[i]? = some u := e1
      replace e2 : (ys.map V.int)[i]? = some v := e2
      rw [List.getElem?_map] at e1 e2
      obtain ⟨n, n1, rfl⟩ := Option.map_eq_some_iff.mp e1
      obtain ⟨m, m1, rfl⟩ := Option.map_eq_some_iff.mp e2
      have li := (List.getElem?_eq_some_iff.mp n1).1
      have sN := same_new (o := .tup [.int n, .int m]) nT
      refine ⟨Tp, [.int n, .int m], rfl, SqT.of upd_same, rfl, _, _, rfl, _, _, rfl, rfl, rfl, ?_⟩
      refine ⟨_, rfl, _, rfl, _, _, rfl, rfl, wide_mul (b1 n (List.mem_of_getElem? n1)) (b2 m (List.mem_of_getElem? m1)) (by decide) (by decide) (by decide), _, sN _ _ hacc, ?_, fun b o e => ?_, ?_⟩
      · rw [List.length_map, mulZ_len, List.length_take]
        exact small1000 (by omega)
      · rw [upd_ne (ne_of_none e hD)]
        exact sN _ _ (s1 _ _ e)
      · rw [upd_same, mulZ_take xs ys i n m n1 m1, List.map_append]
        rfl
    · obtain ⟨s1, hacc⟩ := hP
      refine ⟨D, _, rfl, SqL.of hacc, ?_⟩
      rw [mulZ_sum, List.length_map, List.length_map]
      have e : ∀ (xs ys : List Int), dotZ (xs.take (min xs.length ys.length)) (ys.take (min xs.length ys.length)) = dotZ xs ys := fun xs => by
        induction xs with
        | nil => intro ys; cases ys <;> rfl
        | cons x xs ih =>
          intro ys
          cases ys with
          | nil => rfl
          | cons y ys =>
            rw [List.length_cons, List.length_cons, Nat.succ_min_succ]
            show x * y + dotZ (xs.take _) (ys.take _) = x * y + dotZ xs ys
            rw [ih ys]
      rw [e]
      exact k _ s1
end
end E1

namespace E1
open PySem PySem.Spec PyProof.Rows L2
theorem sqT_same {K : PySem.W.Frag} {H H' : Hp} {a : Addr} {xs : List V} (h : SqT K H a xs) (e : Same H H') : SqT K H' a xs := by
  rcases h with (h | ⟨o, h⟩) | h
  · exact .inl (.inl (e _ _ h))
  · exact .inl (.inr ⟨o, e _ _ h⟩)
  · exact .inr h
/-- fractions, of which some may be the module's own -/
def FrsK (K : PySem.W.Frag) (H : Hp) (vs : List V) (qs : List Rat) : Prop := vs.length = qs.length ∧ ∀ (i : Nat) (q : Rat), qs[i]? = some q → ∃ p, vs[i]? = some (.ref p) ∧ SqT K H p [.int q.num, .int (q.den : Int)]
def FrLK (K : PySem.W.Frag) (H : Hp) (a : Addr) (qs : List Rat) : Prop := ∃ vs, H a = some (.lst vs) ∧ FrsK K H vs qs
theorem FrL.k {K : PySem.W.Frag} {H : Hp} {a : Addr} {qs : List Rat} (h : FrL H a qs) : FrLK K H a qs := by
  obtain ⟨vs, e, r⟩ := h
  exact ⟨vs, e, FrsAt.len r, fun i q hq => let ⟨p, h1, h2⟩ := FrsAt.at r hq; ⟨p, h1, SqT.of h2⟩⟩
theorem FrsK.get {K : PySem.W.Frag} {H : Hp} {vs : List V} {qs : List Rat} (h : FrsK K H vs qs) {i : Nat} {v : V} (e : vs[i]? = some v) : ∃ p q, v = .ref p ∧ qs[i]? = some q ∧ SqT K H p [.int q.num, .int (q.den : Int)] := by
  have hi := (List.getElem?_eq_some_iff.mp e).1
  have e2 : qs[i]? = some (qs[i]'(by rw [← h.1]; exact hi)) := List.getElem?_eq_getElem _
  obtain ⟨p, e3, f⟩ := h.2 i _ e2
  rw [e] at e3
  cases e3
  exact ⟨p, _, rfl, e2, f⟩
/-! ### lists of rows of fractions -/
def SeL (H : Hp) (vs : List V) (ss : List (List Rat)) : Prop := vs.length = ss.length ∧ ∀ (i : Nat) (s : List Rat), ss[i]? = some s → ∃ b, vs[i]? = some (.ref b) ∧ FrL H b s
theorem SeL.same {H H' : Hp} {vs : List V} {ss : List (List Rat)} (h : SeL H vs ss) (s : Same H H') : SeL H' vs ss := ⟨h.1, fun i x e => let ⟨b, e1, f⟩ := h.2 i x e; ⟨b, e1, f.same s⟩⟩
theorem SeL.get {H : Hp} {vs : List V} {ss : List (List Rat)} (h : SeL H vs ss) {i : Nat} {v : V} (e : vs[i]? = some v) : ∃ b s, v = .ref b ∧ ss[i]? = some s ∧ FrL H b s := by
  have hi := (List.getElem?_eq_some_iff.mp e).1
  have e2 : ss[i]? = some (ss[i]'(by rw [← h.1]; exact hi)) := List.getElem?_eq_getElem _
  obtain ⟨b, e3, f⟩ := h.2 i _ e2
  rw [e] at e3
  cases e3
  exact ⟨b, _, rfl, e2, f⟩
theorem SeL.app {H : Hp} {vs us : List V} {ss ts : List (List Rat)} (h : SeL H vs ss) (g : SeL H us ts) : SeL H (vs ++ us) (ss ++ ts) := by
  refine ⟨by rw [List.length_append, List.length_append, h.1, g.1], fun i s e => ?_⟩
  by_cases c : i < ss.length
  · rw [List.getElem?_append_left c] at e
    rw [List.getElem?_append_left (by rw [h.1]; exact c)]
    exact h.2 i s e
  · rw [List.getElem?_append_right (by omega)] at e
    rw [List.getElem?_append_right (by rw [h.1]; omega), h.1]
    exact g.2 _ s e
theorem SeL.one {H : Hp} {b : Addr} {s : List Rat} (h : FrL H b s) : SeL H [.ref b] [s] := by
  refine ⟨rfl, fun i t e => ?_⟩
  match i with
  | 0 => cases e; exact ⟨b, rfl, h⟩
  | i + 1 => cases e
theorem SeL.drop {H : Hp} {vs : List V} {ss : List (List Rat)} (h : SeL H vs ss) (n : Nat) : SeL H (vs.drop n) (ss.drop n) := by
  refine ⟨by rw [List.length_drop, List.length_drop, h.1], fun i s e => ?_⟩
  rw [List.getElem?_drop] at e ⊢
  exact h.2 _ s e
theorem SeL.take {H : Hp} {vs : List V} {ss : List (List Rat)} (h : SeL H vs ss) (n : Nat) : SeL H (vs.take n) (ss.take n) := by
  refine ⟨by rw [List.length_take, List.length_take, h.1], fun i s e => ?_⟩
  rw [List.getElem?_take] at e ⊢
  split at e
  · rw [if_pos (by assumption)]
    exact h.2 _ s e
  · cases e
theorem SeL.rev {H : Hp} {vs : List V} {ss : List (List Rat)} (h : SeL H vs ss) : SeL H vs.reverse ss.reverse := by
  refine ⟨by rw [List.length_reverse, List.length_reverse, h.1], fun i s e => ?_⟩
  have hi := (List.getElem?_eq_some_iff.mp e).1
  rw [List.length_reverse] at hi
  rw [List.getElem?_reverse hi] at e
  rw [List.getElem?_reverse (by rw [h.1]; exact hi), h.1]
  exact h.2 _ s e
theorem FrL.but {H H' : Hp} {D b : Addr} {us : List V} {s : List Rat} (h : FrL H b s) (n : b ≠ D) (t : SameBut D H H') (hD : H D = some (.lst us)) : FrL H' b s := by
  obtain ⟨vs, e, r⟩ := h
  exact ⟨vs, t _ _ n e, PrsAt.but r t hD⟩

theorem FrsK.same {K : PySem.W.Frag} {H H' : Hp} {vs : List V} {qs : List Rat} (h : FrsK K H vs qs) (e : Same H H') : FrsK K H' vs qs := ⟨h.1, fun i q hq => let ⟨p, h1, h2⟩ := h.2 i q hq; ⟨p, h1, sqT_same h2 e⟩⟩
theorem FrLK.same {K : PySem.W.Frag} {H H' : Hp} {a : Addr} {qs : List Rat} (h : FrLK K H a qs) (e : Same H H') : FrLK K H' a qs := let ⟨vs, h1, h2⟩ := h; ⟨vs, e _ _ h1, h2.same e⟩
theorem sqT_but {K : PySem.W.Frag} {H H' : Hp} {a D : Addr} {xs us : List V} (h : SqT K H a xs) (t : SameBut D H H') (hD : H D = some (.lst us)) : SqT K H' a xs := by
  rcases h with (h | ⟨o, h⟩) | h
  · exact .inl (.inl (t _ _ (ne_of h hD (fun z => nomatch z)) h))
  · exact .inl (.inr ⟨o, t _ _ (ne_of h hD (fun z => nomatch z)) h⟩)
  · exact .inr h
theorem FrsK.but {K : PySem.W.Frag} {H H' : Hp} {D : Addr} {vs us : List V} {qs : List Rat} (h : FrsK K H vs qs) (t : SameBut D H H') (hD : H D = some (.lst us)) : FrsK K H' vs qs := ⟨h.1, fun i q hq => let ⟨p, h1, h2⟩ := h.2 i q hq; ⟨p, h1, sqT_but h2 t hD⟩⟩
theorem FrLK.but {K : PySem.W.Frag} {H H' : Hp} {D b : Addr} {us : List V} {s : List Rat} (h : FrLK K H b s) (n : b ≠ D) (t : SameBut D H H') (hD : H D = some (.lst us)) : FrLK K H' b s := let ⟨vs, e, r⟩ := h; ⟨vs, t _ _ n e, r.but t hD⟩
theorem FrsK.app {K : PySem.W.Frag} {H : Hp} {vs : List V} {qs : List Rat} {p : Addr} {q : Rat} (h : FrsK K H vs qs) (f : SqT K H p [.int q.num, .int (q.den : Int)]) : FrsK K H (vs ++ [.ref p]) (qs ++ [q]) := by
  refine ⟨by rw [List.length_append, List.length_append, h.1]; rfl, fun i x e => ?_⟩
  by_cases c : i < qs.length
  · rw [List.getElem?_append_left c] at e
    rw [List.getElem?_append_left (by rw [h.1]; exact c)]
    exact h.2 i x e
  · rw [List.getElem?_append_right (by omega)] at e
    rw [List.getElem?_append_right (by rw [h.1]; omega), h.1]
    have z : i - qs.length = 0 := by
      have := (List.getElem?_eq_some_iff.mp e).1
      simp at this
      exact this
    rw [z] at e ⊢
    cases e
    exact ⟨p, rfl, f⟩
def widR (ss : List (List Rat)) : Nat := (ss.headD []).length
/-- rows of one length, one to ten; at most ten rows -/
structure Rec (ss : List (List Rat)) : Prop where
  n10 : ss.length ≤ 10
  wid : ∀ s ∈ ss, s.length = widR ss
  c1 : ss ≠ [] → 1 ≤ widR ss ∧ widR ss ≤ 10
theorem Rec.row {ss : List (List Rat)} (h : Rec ss) {s : List Rat} (hs : s ∈ ss) : s.length = widR ss ∧ 1 ≤ s.length ∧ s.length ≤ 10 := by
  have := h.c1 (fun z => by rw [z] at hs; cases hs)
  have := h.wid s hs
  omega
theorem Rec.w10 {ss : List (List Rat)} (h : Rec ss) : widR ss ≤ 10 := by
  by_cases c : ss = []
  · rw [c]
    exact Nat.zero_le _
  · exact (h.c1 c).2
/-- a list of rows that were not there ahead of it, each by itself -/
structure OwnM (K : PySem.W.Frag) (H0 H : Hp) (D : Addr) (ss : List (List Rat)) : Prop where
  ex : ∃ bs : List Addr, H D = some (.lst (bs.map V.ref)) ∧ bs.length = ss.length ∧ bs.Nodup ∧ (∀ b ∈ bs, b ≠ D ∧ H0 b = none) ∧ ∀ (i : Nat) (b : Addr) (s : List Rat), bs[i]? = some b → ss[i]? = some s → FrLK K H b s
theorem OwnM.nil {K : PySem.W.Frag} {H0 H : Hp} {D : Addr} (h : H D = some (.lst [])) : OwnM K H0 H D [] := ⟨⟨[], h, rfl, .nil, fun b hb => absurd hb List.not_mem_nil, fun i b s e => by cases e⟩⟩
theorem OwnM.same {K : PySem.W.Frag} {H0 H H' : Hp} {D : Addr} {ss : List (List Rat)} (h : OwnM K H0 H D ss) (e : Same H H') : OwnM K H0 H' D ss := by
  obtain ⟨bs, h1, h2, h3, h4, h5⟩ := h.ex
  exact ⟨⟨bs, e _ _ h1, h2, h3, h4, fun i b s x y => (h5 i b s x y).same e⟩⟩
theorem OwnM.back {K : PySem.W.Frag} {H0 H1 H : Hp} {D : Addr} {ss : List (List Rat)} (h : OwnM K H1 H D ss) (e : Same H0 H1) : OwnM K H0 H D ss := by
  obtain ⟨bs, h1, h2, h3, h4, h5⟩ := h.ex
  exact ⟨⟨bs, h1, h2, h3, fun b hb => ⟨(h4 b hb).1, e.free (h4 b hb).2⟩, h5⟩⟩
/-- one more row -/
theorem OwnM.add {K : PySem.W.Frag} {H0 G G2 : Hp} {D l : Addr} {ss : List (List Rat)} {s : List Rat} (h : OwnM K H0 G D ss) (s0 : Same H0 G) (e : Same G G2) (hl : G l = none) (f : FrLK K G2 l s) :
    ∃ us, G2 D = some (.lst us) ∧ us.length = ss.length ∧ OwnM K H0 (upd G2 D (.lst (us ++ [.ref l]))) D (ss ++ [s]) := by
  obtain ⟨bs, h1, h2, h3, h4, h5⟩ := h.ex
  have e1 := e _ _ h1
  have nl : l ≠ D := fun z => by
    rw [z, h1] at hl
    cases hl
  refine ⟨_, e1, by rw [List.length_map, h2], ⟨⟨bs ++ [l], ?_, by rw [List.length_append, List.length_append, h2]; rfl, ?_, fun b hb => ?_, fun i b r hb hr => ?_⟩⟩⟩
  · rw [upd_same, List.map_append]
    rfl
  · refine List.nodup_append.mpr ⟨h3, by simp, fun x hx y hy z => ?_⟩
    rw [List.mem_singleton.mp hy] at z
    obtain ⟨i, hi⟩ := List.mem_iff_getElem?.mp hx
    have li := (List.getElem?_eq_some_iff.mp hi).1
    obtain ⟨vs, g1, _⟩ := h5 i x _ hi (List.getElem?_eq_getElem (by omega))
    rw [z, hl] at g1
    cases g1
  · rcases List.mem_append.mp hb with hb | hb
    · exact h4 b hb
    · rw [List.mem_singleton.mp hb]
      exact ⟨nl, s0.free hl⟩
  · by_cases c : i < bs.length
    · rw [List.getElem?_append_left c] at hb
      rw [List.getElem?_append_left (by omega)] at hr
      exact ((h5 i b r hb hr).same e).but (h4 b (List.mem_of_getElem? hb)).1 SameBut.upd e1
    · rw [List.getElem?_append_right (by omega)] at hb
      rw [List.getElem?_append_right (by omega)] at hr
      have z : i - bs.length = 0 := by
        have := (List.getElem?_eq_some_iff.mp hb).1
        simp at this
        exact this
      rw [z] at hb
      rw [← h2, z] at hr
      cases hb
      cases hr
      exact f.but nl SameBut.upd e1
def spIsRow : Sp := fun vs H Q _ => ∃ (a : Addr) (qs : List Rat), vs = [.ref a] ∧ FrL H a qs ∧ 1 ≤ qs.length ∧ qs.length ≤ 10 ∧ ∀ H', Same H H' → Q (.bl true) H'
def spIsMat : Sp := fun vs H Q _ => ∃ (a : Addr) (ws : List V) (A : List (List Rat)), vs = [.ref a] ∧ H a = some (.lst ws) ∧ SeL H ws A ∧ Rec A ∧ ∀ H', Same H H' → Q (.bl true) H'
def spShape : Sp := fun vs H Q _ => ∃ (a : Addr) (ws : List V) (A : List (List Rat)), vs = [.ref a] ∧ H a = some (.lst ws) ∧ SeL H ws A ∧ Rec A ∧ ∀ p, H p = none → Q (.ref p) (upd H p (.tup [.int (A.length : Nat), .int (widR A : Nat)]))
def spShapeX : Sp := fun vs H Q _ => ∃ (a : Addr) (ws : List V) (A : List (List Rat)), vs = [.ref a] ∧ H a = some (.lst ws) ∧ SeL H ws A ∧ Rec A ∧ ∀ p H', H p = none → Same H H' → H' p = some (.tup [.int (A.length : Nat), .int (widR A : Nat)]) → Q (.ref p) H'
def spChkM : Sp := fun vs H Q _ => ∃ (a : Addr) (ws : List V) (A : List (List Rat)), vs = [.ref a] ∧ H a = some (.lst ws) ∧ SeL H ws A ∧ Rec A ∧ ∀ H', Same H H' → Q .non H'
def spIsList : Sp := fun vs H Q _ => ∃ (a : Addr) (qs : List Rat), vs = [.ref a, .int (qs.length : Nat)] ∧ FrL H a qs ∧ qs.length ≤ 10 ∧ ∀ H', Same H H' → Q (.bl true) H'
def spChkL : Sp := fun vs H Q _ => ∃ (a : Addr) (qs : List Rat), vs = [.ref a, .int (qs.length : Nat)] ∧ FrL H a qs ∧ qs.length ≤ 10 ∧ ∀ H', Same H H' → Q .non H'
section
variable {P : Program} {w : World} {K : PySem.W.Frag} {mg : Str → Option Value} {base : Heap}
theorem sc_is_row : FnScope ["thing"] ["thing"] (defScope s_is_row) := ⟨rfl, rfl, rfl, by decide +kernel, rfl, by decide +kernel, by decide +kernel⟩
theorem ok_is_row {f : Addr} {fd : FuncData} (F : Fun K "is_row" "is_row" s_is_row f fd) (z : Zs mg) {tT : Tok} (g_MOST_ROWS : mg "MOST_ROWS" = some (.int 10 tT)) (c_is_fractions : Cal P w K mg base 3 "is_fractions" ["thing"] spIsFrs) : FnOk P w K mg base CX0 4 f fd ["thing"] spIsRow := by
  refine F.ok sc_is_row (fun vs H Q E h => ?_) (fun cdv A outer s H vs Q E hr h => ?_)
  · obtain ⟨a, qs, rfl, _⟩ := h
    rfl
  · obtain ⟨a, qs, rfl, hq, h1, h2, k⟩ := h
    refine ⟨_, (pss_one (ps_ret (pe_and (pe_cal c_is_fractions hr (pa_cons (pv 0) pa_nil)) (pe_one (pe_chain op_le op_le pe_int (pe_callB call_len_seq (by rfl) z.len PySem.boot_len (pa_cons (pv 0) pa_nil)) (pe_glob (v := .int 10) (by rfl) g_MOST_ROWS ⟨_, rfl⟩)))))), ?_⟩
    refine ⟨_, rfl, a, qs, rfl, hq, by omega, fun H1 s1 => ?_⟩
    refine ⟨_, rfl, iteT ?_⟩
    obtain ⟨vs, ha, lv, hv⟩ := (hq.same s1).len
    refine ⟨_, rfl, a, vs, rfl, .inl (SqL.of ha), _, _, rfl, rfl, _, rfl, iteC (d := true) (decide_eq_true (by omega)) (iteT ⟨_, _, rfl, rfl, ?_⟩)⟩
    have e9 : decide (((vs.length : Nat) : Int) ≤ 10) = true := decide_eq_true (by omega)
    show Q (.bl (decide (((vs.length : Nat) : Int) ≤ 10))) H1
    rw [e9]
    exact k _ s1
theorem sc_is_matrix : FnScope ["thing", "row"] ["thing"] (defScope s_is_matrix) := ⟨rfl, rfl, rfl, by decide +kernel, rfl, by decide +kernel, by decide +kernel⟩
theorem ok_is_matrix {f : Addr} {fd : FuncData} (F : Fun K "is_matrix" "is_matrix" s_is_matrix f fd) (z : Zs mg) {tT : Tok} (g_MOST_ROWS : mg "MOST_ROWS" = some (.int 10 tT)) (c_is_row : Cal P w K mg base 4 "is_row" ["thing"] spIsRow) : FnOk P w K mg base CX0 5 f fd ["thing"] spIsMat := by
  refine F.ok sc_is_matrix (fun vs H Q E h => ?_) (fun cdv A outer s H vs Q E hr h => ?_)
  · obtain ⟨a, ws, A, rfl, _⟩ := h
    rfl
  · obtain ⟨a, ws, A, rfl, ha, hs, sq, k⟩ := h
    refine ⟨_, (pss_cons (ps_if (PW.pt (pw_or (pt_not (pt_val (pe_callB call_isi (by rfl) z.isinstance (by decide +kernel) (pa_cons (pv 0) (pa_cons (pe_bltn (v := .ty "list") (by rfl) z.list (by decide +kernel) rfl) pa_nil))))) (pw_or1 (pt_cmpR op_gt (pe_callB call_len_seq (by rfl) z.len PySem.boot_len (pa_cons (pv 0) pa_nil)) (pe_glob (v := .int 10) (by rfl) g_MOST_ROWS ⟨_, rfl⟩) (nomark _))))) (pss_one (ps_ret pe_bl)) pss_nil)
      (pss_cons (ps_if (pt_not (pt_val (pe_callB (cr_all rfl) (by rfl) z.all (by decide +kernel) (pa_cons (pe_lc (own := [("row", 1)]) (g := gName 1) (tt := tYes) (te := (tCall spIsRow [] E0 (tCons (tVar 1) tNil))) (by rfl) sc_is_matrix.nd (pi_list (pv 0)) (blkOk_by (own := [("row", 1)]) (N := ["thing", "row"]) (sc := defScope s_is_matrix) (by decide +kernel)) (fun _ _ _ _ _ => by exact (pg_name (i := 1) sc_is_matrix.nd rfl (.inl rfl))) (fun _ _ _ _ _ => by exact pts_nil) (fun _ _ _ _ _ => by exact (pe_cal c_is_row hr (pa_cons (pv 1) pa_nil)))) pa_nil)))) (pss_one (ps_ret pe_bl)) pss_nil)
      (pss_one (ps_ret (pe_callB (cr_all rfl) (by rfl) z.all (by decide +kernel) (pa_cons (pe_lc (own := [("row", 1)]) (g := gName 1) (tt := tYes) (te := (tOp rEq (tCB (fun xs H Q => ∃ p ys, xs = [V.ref p] ∧ (SqL K H p ys ∨ SqT K H p ys) ∧ Q (.int ys.length) H) (tCons (tVar 1) tNil)) (tCB (fun xs H Q => ∃ p ys, xs = [V.ref p] ∧ (SqL K H p ys ∨ SqT K H p ys) ∧ Q (.int ys.length) H) (tCons (tOp (rIxL K) (tVar 0) (tC (.int 0))) tNil)))) (by rfl) sc_is_matrix.nd (pi_list (pv 0)) (blkOk_by (own := [("row", 1)]) (N := ["thing", "row"]) (sc := defScope s_is_matrix) (by decide +kernel)) (fun _ _ _ _ _ => by exact (pg_name (i := 1) sc_is_matrix.nd rfl (.inl rfl))) (fun _ _ _ _ _ => by exact pts_nil) (fun _ _ _ _ _ => by exact (pe_cmpR op_eq (pe_callB call_len_seq (by rfl) z.len PySem.boot_len (pa_cons (pv 1) pa_nil)) (pe_callB call_len_seq (by rfl) z.len PySem.boot_len (pa_cons (pe_ix ix_list (pv 0) pe_int (fun _ _ => rfl)) pa_nil)) (nomark _)))) pa_nil)))))), ?_⟩
    have lw := hs.1
    have n10 := sq.n10
    refine ⟨_, rfl, _, .ty "list", _, _, true, rfl, .ty _, .base (.lst ha), kit_ty (by decide +kernel), _, rfl, iteF ?_⟩
    refine ⟨_, rfl, a, ws, rfl, .inl (SqL.of ha), _, _, rfl, rfl, _, rfl, iteC (d := false) (decide_eq_false (by omega)) (iteF ?_)⟩
    refine ⟨_, rfl, a, rfl, ⟨_, SqL.of ha⟩, fun D hD => lc_list (K := K) (a := a) (xs := ws) (fun i G => Same H G ∧ G D = some (.lst ((List.replicate i true).map V.bl))) ⟨same_new hD, upd_same⟩ (fun i G _ hP => SqL.of (hP.1 _ _ ha)) (fun i x G hx hP => ?_) (fun G hP => ?_)⟩
    · obtain ⟨sG, hacc⟩ := hP
      obtain ⟨b, r, rfl, hr2, fb⟩ := hs.get hx
      have li := (List.getElem?_eq_some_iff.mp hr2).1
      have wr := sq.row (List.mem_of_getElem? hr2)
      refine ⟨rfl, _, rfl, b, r, rfl, fb.same sG, by omega, by omega, fun G2 s2 => ?_⟩
      refine ⟨_, s2 _ _ hacc, ?_, fun b o e => ?_, ?_⟩
      · rw [List.length_map, List.length_replicate]
        exact small1000 (by omega)
      · rw [upd_ne (ne_of_none e hD)]
        exact s2 _ _ (sG _ _ e)
      · rw [upd_same, List.replicate_succ', List.map_append]
        rfl
    · obtain ⟨sG, hacc⟩ := hP
      refine ⟨D, List.replicate _ true, rfl, SqL.of hacc, ?_⟩
      rw [rep_all]
      refine ⟨_, rfl, iteF ?_⟩
      refine ⟨_, rfl, a, rfl, ⟨_, SqL.of (sG _ _ ha)⟩, fun D2 hD2 => lc_list (K := K) (a := a) (xs := ws) (fun i G2 => Same G G2 ∧ G2 D2 = some (.lst ((List.replicate i true).map V.bl))) ⟨same_new hD2, upd_same⟩ (fun i G2 _ hP => SqL.of (hP.1 _ _ (sG _ _ ha))) (fun i x G2 hx hP => ?_) (fun G2 hP => ?_)⟩
      · obtain ⟨sG2, hacc2⟩ := hP
        obtain ⟨b, r, rfl, hr2, fb⟩ := hs.get hx
        have li := (List.getElem?_eq_some_iff.mp hr2).1
        have wr := sq.row (List.mem_of_getElem? hr2)
        obtain ⟨vs, hv, lv, _⟩ := (fb.same (sG.trans sG2)).len
        obtain ⟨b0, e0, f0⟩ := hs.2 0 _ (List.getElem?_eq_getElem (show 0 < A.length by omega))
        have w0 := sq.row (List.getElem_mem (show 0 < A.length by omega))
        obtain ⟨us, hu, lu, _⟩ := (f0.same (sG.trans sG2)).len
        refine ⟨rfl, ?_⟩
        refine ⟨_, rfl, b, vs, rfl, .inl (SqL.of hv), _, rfl, a, ws, 0, .ref b0, rfl, rfl, SqL.of (sG2 _ _ (sG _ _ ha)), atI_nat (j := 0) e0, ?_⟩
        refine ⟨b0, us, rfl, .inl (SqL.of hu), rfl, ?_⟩
        rw [dec_int, show (((vs.length : Nat) : Int) == ((us.length : Nat) : Int)) = true by rw [lv, lu, wr.1, w0.1]; exact beq_self_eq_true _]
        refine ⟨_, hacc2, ?_, fun b o e => ?_, ?_⟩
        · rw [List.length_map, List.length_replicate]
          exact small1000 (by omega)
        · rw [upd_ne (ne_of_none e hD2)]
          exact sG2 _ _ e
        · rw [upd_same, List.replicate_succ', List.map_append]
          rfl
      · obtain ⟨sG2, hacc2⟩ := hP
        refine ⟨D2, List.replicate _ true, rfl, SqL.of hacc2, ?_⟩
        rw [rep_all]
        exact k _ (sG.trans sG2)
theorem sc_shape_of : FnScope ["matrix"] ["matrix"] (defScope s_shape_of) := ⟨rfl, rfl, rfl, by decide +kernel, rfl, by decide +kernel, by decide +kernel⟩
theorem ok_shape_of {f : Addr} {fd : FuncData} {k : Nat} (F : Fun K "shape_of" "shape_of" s_shape_of f fd) (z : Zs mg) : FnOk P w K mg base CX0 (k + 1) f fd ["matrix"] spShape := by
  refine F.ok sc_shape_of (fun vs H Q E h => ?_) (fun cdv A outer s H vs Q E hr h => ?_)
  · obtain ⟨a, ws, A, rfl, _⟩ := h
    rfl
  · obtain ⟨a, ws, A, rfl, ha, hs, sq, k⟩ := h
    refine ⟨_, (pss_one (ps_ret (pe_tup (pa_cons (pe_callB call_len_seq (by rfl) z.len PySem.boot_len (pa_cons (pv 0) pa_nil)) (pa_cons (pe_ifExp (pt_truth (pv 0) (by intro _; rfl)) (pe_callB call_len_seq (by rfl) z.len PySem.boot_len (pa_cons (pe_ix ix_list (pv 0) pe_int (fun _ _ => rfl)) pa_nil)) pe_int) pa_nil))))), ?_⟩
    have lw := hs.1
    refine ⟨_, rfl, a, _, rfl, .inl (SqL.of ha), ?_⟩
    by_cases c : A.length = 0
    · have c2 : ws = [] := List.length_eq_zero_iff.mp (by omega)
      subst c2
      refine ⟨_, rfl, _, .inl ⟨_, SqL.of ha, rfl⟩, iteF ?_⟩
      have cA : A = [] := List.length_eq_zero_iff.mp c
      subst cA
      have := k
      exact ⟨(by show 2 ≤ sizeLine; decide), fun p hp => this p hp⟩
    · have c2 : ws ≠ [] := fun e => c (by rw [← lw, e]; rfl)
      obtain ⟨b0, e0, f0⟩ := hs.2 0 _ (List.getElem?_eq_getElem (show 0 < A.length by omega))
      have w0 := sq.row (List.getElem_mem (show 0 < A.length by omega))
      obtain ⟨us, hu, lu, _⟩ := f0.len
      refine ⟨_, rfl, _, .inl ⟨_, SqL.of ha, rfl⟩, iteC (d := true) (by cases ws with | nil => exact absurd rfl c2 | cons x xs => rfl) (iteT ?_)⟩
      refine ⟨_, rfl, a, ws, 0, .ref b0, rfl, rfl, SqL.of ha, atI_nat (j := 0) e0, b0, us, rfl, .inl (SqL.of hu), ?_⟩
      refine ⟨(by show 2 ≤ sizeLine; decide), fun p hp => ?_⟩
      rw [lw, lu, w0.1]
      exact k p hp
theorem sc_is_list_of : FnScope ["thing", "many"] ["thing", "many"] (defScope s_is_list_of) := ⟨rfl, rfl, rfl, by decide +kernel, rfl, by decide +kernel, by decide +kernel⟩
theorem ok_is_list_of {f : Addr} {fd : FuncData} (F : Fun K "is_list_of" "is_list_of" s_is_list_of f fd) (z : Zs mg) (c_is_fractions : Cal P w K mg base 3 "is_fractions" ["thing"] spIsFrs) : FnOk P w K mg base CX0 4 f fd ["thing", "many"] spIsList := by
  refine F.ok sc_is_list_of (fun vs H Q E h => ?_) (fun cdv A outer s H vs Q E hr h => ?_)
  · obtain ⟨a, qs, rfl, _⟩ := h
    rfl
  · obtain ⟨a, qs, rfl, hq, l10, k⟩ := h
    refine ⟨_, (pss_one (ps_ret (pe_and (pe_cal c_is_fractions hr (pa_cons (pv 0) pa_nil)) (pe_one (pe_cmpR op_eq (pe_callB call_len_seq (by rfl) z.len PySem.boot_len (pa_cons (pv 0) pa_nil)) (pv 1) (nomark _)))))), ?_⟩
    refine ⟨_, rfl, a, qs, rfl, hq, by omega, fun H1 s1 => ?_⟩
    refine ⟨_, rfl, iteT ?_⟩
    obtain ⟨vs, ha, lv, hv⟩ := (hq.same s1).len
    refine ⟨_, rfl, a, _, rfl, .inl (SqL.of ha), _, rfl, rfl, ?_⟩
    rw [dec_int, show (((vs.length : Nat) : Int) == ((qs.length : Nat) : Int)) = true by rw [lv]; exact beq_self_eq_true _]
    exact k _ s1
theorem sc_check_list : FnScope ["thing", "many"] ["thing", "many"] (defScope s_check_list) := ⟨rfl, rfl, rfl, by decide +kernel, rfl, by decide +kernel, by decide +kernel⟩
theorem ok_check_list {f : Addr} {fd : FuncData} (F : Fun K "check_list" "check_list" s_check_list f fd) (z : Zs mg) (c_is_list_of : Cal P w K mg base 4 "is_list_of" ["thing", "many"] spIsList) : FnOk P w K mg base CX0 5 f fd ["thing", "many"] spChkL := by
  refine F.ok sc_check_list (fun vs H Q E h => ?_) (fun cdv A outer s H vs Q E hr h => ?_)
  · obtain ⟨a, qs, rfl, _⟩ := h
    rfl
  · obtain ⟨a, qs, rfl, hq, l10, k⟩ := h
    refine ⟨_, (pss_one (ps_if (pt_not (pt_val (pe_cal c_is_list_of hr (pa_cons (pv 0) (pa_cons (pv 1) pa_nil))))) (pss_one ps_never) pss_nil)), ?_⟩
    exact ⟨_, rfl, _, rfl, a, qs, rfl, hq, l10, fun H1 s1 => ⟨_, rfl, iteF (k _ s1)⟩⟩
theorem sc_check_matrix : FnScope ["thing"] ["thing"] (defScope s_check_matrix) := ⟨rfl, rfl, rfl, by decide +kernel, rfl, by decide +kernel, by decide +kernel⟩
theorem ok_check_matrix {f : Addr} {fd : FuncData} (F : Fun K "check_matrix" "check_matrix" s_check_matrix f fd) (z : Zs mg) (c_is_matrix : Cal P w K mg base 5 "is_matrix" ["thing"] spIsMat) : FnOk P w K mg base CX0 6 f fd ["thing"] spChkM := by
  refine F.ok sc_check_matrix (fun vs H Q E h => ?_) (fun cdv A outer s H vs Q E hr h => ?_)
  · obtain ⟨a, ws, A, rfl, _⟩ := h
    rfl
  · obtain ⟨a, ws, A, rfl, ha, hs, sq, k⟩ := h
    refine ⟨_, (pss_one (ps_if (pt_not (pt_val (pe_cal c_is_matrix hr (pa_cons (pv 0) pa_nil)))) (pss_one ps_never) pss_nil)), ?_⟩
    exact ⟨_, rfl, a, ws, A, rfl, ha, hs, sq, fun H1 s1 => ⟨_, rfl, iteF (k _ s1)⟩⟩
theorem sc_shape : FnScope ["matrix"] ["matrix"] (defScope s_shape) := ⟨rfl, rfl, rfl, by decide +kernel, rfl, by decide +kernel, by decide +kernel⟩
theorem ok_shape {f : Addr} {fd : FuncData} (F : Fun K "shape" "shape" s_shape f fd) (z : Zs mg) (c_check_matrix : Cal P w K mg base 6 "check_matrix" ["thing"] spChkM) (c_shape_of : Cal P w K mg base 1 "shape_of" ["matrix"] spShape) : FnOk P w K mg base CX0 7 f fd ["matrix"] spShapeX := by
  refine F.ok sc_shape (fun vs H Q E h => ?_) (fun cdv A outer s H vs Q E hr h => ?_)
  · obtain ⟨a, ws, A, rfl, _⟩ := h
    rfl
  · obtain ⟨a, ws, A, rfl, ha, hs, sq, k⟩ := h
    refine ⟨_, (pss_cons (ps_expr (pe_cal c_check_matrix hr (pa_cons (pv 0) pa_nil)))
      (pss_one (ps_ret (pe_cal c_shape_of hr (pa_cons (pv 0) pa_nil))))), ?_⟩
    exact ⟨_, rfl, a, ws, A, rfl, ha, hs, sq, fun H1 s1 => ⟨_, rfl, a, ws, A, rfl, s1 _ _ ha, hs.same s1, sq, fun p hp => k p _ (s1.free hp) (s1.trans (same_new hp)) upd_same⟩⟩
end
end E1

namespace E1
open PySem PySem.Spec PyProof.Rows L2
theorem SeL.butN {H H' : Hp} {D : Addr} {us vs : List V} {ss : List (List Rat)} (h : SeL H vs ss) (hD : H D = some (.lst us)) (n : ∀ v ∈ vs, v ≠ .ref D) (t : SameBut D H H') : SeL H' vs ss :=
  ⟨h.1, fun i s e => let ⟨b, e1, f⟩ := h.2 i s e; ⟨b, e1, f.but (fun z => n _ (List.mem_of_getElem? e1) (by rw [z])) t hD⟩⟩
/-- the rows with what stands in them -/
def RowsIn (H : Hp) : List (Addr × List V) → List (List Rat) → Prop
  | [], [] => True
  | p :: ls, s :: ss => (H p.1 = some (.lst p.2) ∧ FrsAt H p.2 s) ∧ RowsIn H ls ss
  | _, _ => False
theorem RowsIn.len {H : Hp} : ∀ {ls : List (Addr × List V)} {ss : List (List Rat)}, RowsIn H ls ss → ls.length = ss.length
  | [], [], _ => rfl
  | p :: ls, s :: ss, h => congrArg (· + 1) (RowsIn.len h.2)
theorem RowsIn.mem {H : Hp} {c : Nat} : ∀ {ls : List (Addr × List V)} {ss : List (List Rat)}, RowsIn H ls ss → (∀ s ∈ ss, s.length = c) → ∀ p ∈ ls, H p.1 = some (.lst p.2) ∧ p.2.length = c
  | [], [], _, _, p, hp => by cases hp
  | q :: ls, s :: ss, h, w, p, hp => by
    rcases List.mem_cons.mp hp with rfl | hp
    · exact ⟨h.1.1, by rw [FrsAt.len h.1.2, w s (List.mem_cons_self ..)]⟩
    · exact RowsIn.mem h.2 (fun r hr => w r (List.mem_cons_of_mem _ hr)) p hp
theorem RowsIn.same {H H' : Hp} (e : Same H H') : ∀ {ls : List (Addr × List V)} {ss : List (List Rat)}, RowsIn H ls ss → RowsIn H' ls ss
  | [], [], _ => trivial
  | p :: ls, s :: ss, h => ⟨⟨e _ _ h.1.1, PrsAt.same h.1.2 e⟩, RowsIn.same e h.2⟩
theorem SeL.ls {H : Hp} : ∀ {ss : List (List Rat)} {vs : List V}, SeL H vs ss → ∃ ls, vs = ls.map (fun p => V.ref p.1) ∧ RowsIn H ls ss
  | [], [], _ => ⟨[], rfl, trivial⟩
  | [], _ :: _, h => by cases h.1
  | _ :: _, [], h => by cases h.1
  | s :: ss, v :: vs, h => by
    obtain ⟨b, e, f⟩ := h.2 0 s rfl
    cases e
    obtain ⟨ws, e1, e2⟩ := f
    obtain ⟨ls, rfl, r⟩ := SeL.ls (ss := ss) (vs := vs) ⟨Nat.succ.inj h.1, fun i r hr => h.2 (i + 1) r hr⟩
    exact ⟨(b, ws) :: ls, rfl, ⟨e1, e2⟩, r⟩
theorem RowsIn.col {H : Hp} {c j : Nat} (hj : j < c) : ∀ {ls : List (Addr × List V)} {ss : List (List Rat)}, RowsIn H ls ss → (∀ s ∈ ss, s.length = c) → FrsAt H (ls.map fun p => p.2.getD j .non) (ss.map fun s => s.getD j 0)
  | [], [], _, _ => .nil
  | p :: ls, s :: ss, h, w => by
    have ws := w s (List.mem_cons_self ..)
    have e : s[j]? = some (s.getD j 0) := by
      rw [List.getD_eq_getElem?_getD, List.getElem?_eq_getElem (by omega)]
      rfl
    obtain ⟨q, f1, f2⟩ := FrsAt.at h.1.2 e
    have g : p.2.getD j .non = .ref q := by
      rw [List.getD_eq_getElem?_getD, f1]
      rfl
    show PrsAt H (p.2.getD j .non :: _) (pr (s.getD j 0) :: _)
    rw [g]
    exact .cons f2 (RowsIn.col hj h.2 fun r hr => w r (List.mem_cons_of_mem _ hr))
def turnR (ss : List (List Rat)) (c : Nat) : List (List Rat) := (List.range c).map fun j => ss.map fun s => s.getD j 0

/-- rows of one length, at most ten -/
def spTurn (K : PySem.W.Frag) : Sp := fun vs H Q _ => ∃ (a : Addr) (ws : List V) (ss : List (List Rat)) (c : Nat), vs = [.ref a] ∧ H a = some (.lst ws) ∧ SeL H ws ss ∧ (∀ s ∈ ss, s.length = c) ∧ ss.length ≤ 10 ∧ c ≤ 100 ∧ (ss = [] → c = 0) ∧
  ∀ p us H', H p = none → Same H H' → H' p = some (.lst us) → SeL H' us (turnR ss c) → OwnM K H H' p (turnR ss c) → Q (.ref p) H'
/-- a good matrix that stands at a -/
def MatAt (H : Hp) (a : Addr) (ss : List (List Rat)) : Prop := ∃ ws, H a = some (.lst ws) ∧ SeL H ws ss
theorem MatAt.same {H H' : Hp} {a : Addr} {ss : List (List Rat)} (h : MatAt H a ss) (e : Same H H') : MatAt H' a ss := let ⟨ws, h1, h2⟩ := h; ⟨ws, e _ _ h1, h2.same e⟩
def Sm (q : Rat) : Prop := q.num.natAbs < 2 ^ 150 ∧ q.den < 2 ^ 150
def SmM (ss : List (List Rat)) : Prop := ∀ s ∈ ss, ∀ q ∈ s, Sm q
def spMirr (K : PySem.W.Frag) : Sp := fun vs H Q _ => ∃ (a : Addr) (ss : List (List Rat)), vs = [.ref a] ∧ MatAt H a ss ∧ Rec ss ∧ ∀ p H', H p = none → Same H H' → OwnM K H H' p (turnR ss (widR ss)) → Q (.ref p) H'
def unitR (n : Nat) : List (List Rat) := (List.range n).map fun i => (List.range n).map fun j => if i = j then 1 else 0
def spUnit (K : PySem.W.Frag) : Sp := fun vs H Q _ => ∃ n : Nat, vs = [.int (n : Nat)] ∧ n ≤ 10 ∧ ∀ p H', H p = none → Same H H' → OwnM K H H' p (unitR n) → Q (.ref p) H'
def addR : List Rat → List Rat → List Rat
  | x :: xs, y :: ys => (x + y) :: addR xs ys
  | _, _ => []
def addM : List (List Rat) → List (List Rat) → List (List Rat)
  | x :: xs, y :: ys => addR x y :: addM xs ys
  | _, _ => []
theorem addR_take : ∀ (xs ys : List Rat) (i : Nat) (x y : Rat), xs[i]? = some x → ys[i]? = some y → addR (xs.take (i + 1)) (ys.take (i + 1)) = addR (xs.take i) (ys.take i) ++ [x + y]
  | a :: xs, b :: ys, 0, x, y, h1, h2 => by
    cases h1
    cases h2
    rfl
  | a :: xs, b :: ys, i + 1, x, y, h1, h2 => congrArg ((a + b) :: ·) (addR_take xs ys i x y h1 h2)
  | [], _, _, _, _, h1, _ => by cases h1
  | _ :: _, [], _, _, _, _, h2 => by cases h2
theorem addM_take : ∀ (xs ys : List (List Rat)) (i : Nat) (x y : List Rat), xs[i]? = some x → ys[i]? = some y → addM (xs.take (i + 1)) (ys.take (i + 1)) = addM (xs.take i) (ys.take i) ++ [addR x y]
  | a :: xs, b :: ys, 0, x, y, h1, h2 => by
    cases h1
    cases h2
    rfl
  | a :: xs, b :: ys, i + 1, x, y, h1, h2 => congrArg (addR a b :: ·) (addM_take xs ys i x y h1 h2)
  | [], _, _, _, _, h1, _ => by cases h1
  | _ :: _, [], _, _, _, _, h2 => by cases h2
theorem addR_len : ∀ xs ys : List Rat, (addR xs ys).length = min xs.length ys.length
  | [], ys => by cases ys <;> simp [addR]
  | x :: xs, [] => by simp [addR]
  | x :: xs, y :: ys => by
    show (addR xs ys).length + 1 = min (xs.length + 1) (ys.length + 1)
    rw [addR_len xs ys]
    omega
theorem addM_len : ∀ xs ys : List (List Rat), (addM xs ys).length = min xs.length ys.length
  | [], ys => by cases ys <;> simp [addM]
  | x :: xs, [] => by simp [addM]
  | x :: xs, y :: ys => by
    show (addM xs ys).length + 1 = min (xs.length + 1) (ys.length + 1)
    rw [addM_len xs ys]
    omega
theorem plus_q (q r : Rat) : Rat.divInt (q.num * r.den + r.num * q.den) (q.den * r.den) = q + r := by
  refine div_is (Int.mul_ne_zero (den_ne q) (den_ne r)) ?_
  have h1 := q_eq q
  have h2 := q_eq r
  rw [Rat.intCast_mul, Rat.intCast_add, Rat.intCast_mul, Rat.intCast_mul, ← h1, ← h2]
  grind
def spSumM (K : PySem.W.Frag) : Sp := fun vs H Q _ => ∃ (a c : Addr) (ss ts : List (List Rat)), vs = [.ref a, .ref c] ∧ MatAt H a ss ∧ MatAt H c ts ∧ Rec ss ∧ Rec ts ∧ ss.length = ts.length ∧ widR ss = widR ts ∧ SmM ss ∧ SmM ts ∧
  ∀ p H', H p = none → Same H H' → OwnM K H H' p (addM ss ts) → Q (.ref p) H'
def scR (ss : List (List Rat)) (q : Rat) : List (List Rat) := ss.map fun r => r.map fun x => x * q
def spScaled (K : PySem.W.Frag) : Sp := fun vs H Q _ => ∃ (a c : Addr) (ss : List (List Rat)) (q : Rat), vs = [.ref a, .ref c] ∧ MatAt H a ss ∧ Rec ss ∧ Fr H c q ∧ SmM ss ∧ Sm q ∧
  ∀ p H', H p = none → Same H H' → OwnM K H H' p (scR ss q) → Q (.ref p) H'
theorem fr_low1 (q : Rat) : decide (gI q.num (q.den : Int) = 1) = true := by
  refine decide_eq_true ?_
  unfold gI
  have := q.reduced
  unfold Nat.Coprime at this
  show ((Nat.gcd q.num.natAbs ((q.den : Int)).natAbs : Nat) : Int) = 1
  rw [Int.natAbs_natCast, this]
  rfl
section
variable {P : Program} {w : World} {K : PySem.W.Frag} {mg : Str → Option Value} {base : Heap}
theorem sc_turned_over : FnScope ["matrix", "column"] ["matrix"] (defScope s_turned_over) := ⟨rfl, rfl, rfl, by decide +kernel, rfl, by decide +kernel, by decide +kernel⟩
theorem ok_turned_over {f : Addr} {fd : FuncData} {k : Nat} (F : Fun K "turned_over" "turned_over" s_turned_over f fd) (z : Zs mg) : FnOk P w K mg base CX0 (k + 1) f fd ["matrix"] (spTurn K) := by
  refine F.ok sc_turned_over (fun vs H Q E h => ?_) (fun cdv A outer s H vs Q E hr h => ?_)
  · obtain ⟨a, ws, ss, c, rfl, _⟩ := h
    rfl
  · obtain ⟨a, ws, ss, c, rfl, ha, hs, wid, n10, c100, nil0, k⟩ := h
    refine ⟨_, (pss_one (ps_ret (pe_lc (own := [("column", 1)]) (g := gName 1) (tt := tYes) (te := (tCB (fun xs H Q => ∃ p ys, xs = [V.ref p] ∧ (SqL K H p ys ∨ SqT K H p ys) ∧ ∀ l, H l = none → Q (.ref l) (upd H l (.lst ys))) (tCons (tVar 1) tNil))) (by rfl) sc_turned_over.nd (pi_zipS (by rfl) z.zip (pv 0)) (blkOk_by (own := [("column", 1)]) (N := ["matrix", "column"]) (sc := defScope s_turned_over) (by decide +kernel)) (fun _ _ _ _ _ => by exact (pg_name (i := 1) sc_turned_over.nd rfl (.inl rfl))) (fun _ _ _ _ _ => by exact pts_nil) (fun _ _ _ _ _ => by exact (pe_callTy call_list_of (by rfl) z.list (by decide +kernel) (pa_cons (pv 1) pa_nil)))))), ?_⟩
    obtain ⟨ls, rfl, rin⟩ := hs.ls
    have ll := rin.len
    refine ⟨_, rfl, a, c, ls, rfl, SqL.of ha, fun p hp => ⟨SqL.of (rin.mem wid p hp).1, (rin.mem wid p hp).2⟩, by omega, fun D hD => ?_⟩
    have cN : ls = [] → c = 0 := fun z => nil0 (List.length_eq_zero_iff.mp (by rw [← ll, z]; rfl))
    refine lc_it (walk_zipS cN) (fun i G => Same H G ∧ OwnM K H G D (turnR ss i) ∧ ∃ us, G D = some (.lst us) ∧ (∀ v ∈ us, v ≠ .ref D) ∧ SeL G us (turnR ss i)) ⟨same_new hD, OwnM.nil upd_same, [], upd_same, (fun v hv => absurd hv List.not_mem_nil), rfl, (fun i r e => by cases e)⟩ (fun i G _ hP p hp => ?_) (fun i x G G2 hi hP hY => ?_) (fun G hP => ?_)
    · obtain ⟨e1, e2⟩ := (rin.same hP.1).mem wid p hp
      exact ⟨SqL.of e1, e2⟩
    · obtain ⟨sG, OM, us, hacc, nus, se⟩ := hP
      obtain ⟨Tp, ⟨rfl, nT⟩, rfl⟩ := hY
      have sN := same_new (o := .tup (ls.map fun p => p.2.getD i .non)) nT
      have lv := se.1
      unfold turnR at lv
      rw [List.length_map, List.length_range] at lv
      refine ⟨rfl, _, rfl, Tp, _, rfl, .inr (SqT.of upd_same), fun l hl => ?_⟩
      have sl := same_new (o := .lst (ls.map fun p => p.2.getD i .non)) hl
      have S9 := sN.trans sl
      have hacc2 := S9 _ _ hacc
      have nl : l ≠ D := fun e => by
        rw [e, sN _ _ hacc] at hl
        cases hl
      have fr9 : FrL (upd (upd G Tp (.tup (ls.map fun p => p.2.getD i .non))) l (.lst (ls.map fun p => p.2.getD i .non))) l (ss.map fun s => s.getD i 0) := ⟨_, upd_same, RowsIn.col hi (rin.same (sG.trans S9)) wid⟩
      obtain ⟨us9, e9, l9, om9⟩ := OM.add sG S9 (sN.free hl) fr9.k
      rw [hacc2] at e9
      cases e9
      refine ⟨us, hacc2, small1000 (by omega), fun c o e => ?_, ?_, us ++ [.ref l], upd_same, fun v hv => ?_, ?_⟩
      · rw [upd_ne (ne_of_none e hD)]
        exact S9 _ _ (sG _ _ e)
      · unfold turnR at om9 ⊢
        rw [List.range_succ, List.map_append]
        exact om9
      · rcases List.mem_append.mp hv with h | h
        · exact nus v h
        · rw [List.mem_singleton.mp h]
          exact fun z => nl (V.ref.inj z)
      · unfold turnR
        rw [List.range_succ, List.map_append]
        exact SeL.app ((se.same S9).butN hacc2 nus SameBut.upd) (SeL.one (fr9.but nl SameBut.upd hacc2))
    · obtain ⟨sG, OM, us, hacc, nus, se⟩ := hP
      exact k D us G hD sG hacc se OM
theorem sc_mirrored : FnScope ["matrix"] ["matrix"] (defScope s_mirrored) := ⟨rfl, rfl, rfl, by decide +kernel, rfl, by decide +kernel, by decide +kernel⟩
theorem ok_mirrored {f : Addr} {fd : FuncData} (F : Fun K "mirrored" "mirrored" s_mirrored f fd) (z : Zs mg) (c_check_matrix : Cal P w K mg base 6 "check_matrix" ["thing"] spChkM) (c_turned_over : Cal P w K mg base 1 "turned_over" ["matrix"] (spTurn K)) : FnOk P w K mg base CX0 7 f fd ["matrix"] (spMirr K) := by
  refine F.ok sc_mirrored (fun vs H Q E h => ?_) (fun cdv A outer s H vs Q E hr h => ?_)
  · obtain ⟨a, ss, rfl, _⟩ := h
    rfl
  · obtain ⟨a, ss, rfl, ⟨ws, ha, hs⟩, rc, k⟩ := h
    refine ⟨_, (pss_cons (ps_expr (pe_cal c_check_matrix hr (pa_cons (pv 0) pa_nil)))
      (pss_one (ps_ret (pe_cal c_turned_over hr (pa_cons (pv 0) pa_nil))))), ?_⟩
    refine ⟨_, rfl, a, ws, ss, rfl, ha, hs, rc, fun H1 s1 => ?_⟩
    have w10 := rc.w10
    exact ⟨_, rfl, a, ws, ss, widR ss, rfl, s1 _ _ ha, hs.same s1, rc.wid, rc.n10, by omega, (fun e => by rw [e]; rfl), fun p us H2 hp s2 _ _ om => k p H2 (s1.free hp) (s1.trans s2) (om.back s1)⟩
theorem sc_unit : FnScope ["many", "row", "column"] ["many"] (defScope s_unit) := ⟨rfl, rfl, rfl, by decide +kernel, rfl, by decide +kernel, by decide +kernel⟩
theorem ok_unit {f : Addr} {fd : FuncData} (F : Fun K "unit" "unit" s_unit f fd) (z : Zs mg) {tT : Tok} (g_MOST_ROWS : mg "MOST_ROWS" = some (.int 10 tT)) {AO AN : Addr} (g_ONE : mg "ONE" = some (.ref AO)) (tO : ∀ H, SqT K H AO [.int 1, .int 1]) (g_NOUGHT : mg "NOUGHT" = some (.ref AN)) (tN : ∀ H, SqT K H AN [.int 0, .int 1]) (c_is_whole : Cal P w K mg base 1 "is_whole" ["thing"] (spWhole K)) : FnOk P w K mg base CX0 2 f fd ["many"] (spUnit K) := by
  refine F.ok sc_unit (fun vs H Q E h => ?_) (fun cdv A outer s H vs Q E hr h => ?_)
  · obtain ⟨n, rfl, _⟩ := h
    rfl
  · obtain ⟨n, rfl, n10, k⟩ := h
    refine ⟨_, (pss_cons (ps_if (PW.pt (pw_or (pt_not (pt_val (pe_cal c_is_whole hr (pa_cons (pv 0) pa_nil)))) (pw_or1 (pt_not (pt_chain op_le op_le pe_int (pv 0) (pe_glob (v := .int 10) (by rfl) g_MOST_ROWS ⟨_, rfl⟩)))))) (pss_one ps_never) pss_nil)
      (pss_one (ps_ret (pe_lc (own := [("row", 1)]) (g := gName 1) (tt := tYes) (te := (tLc (iRng1 (tCons (tVar 0) tNil)) (gName 2) tYes (tIf (tTest (tOp rEq (tVar 1) (tVar 2))) (tC (.ref AO)) (tC (.ref AN))) (([("column", 2)] : List (Str × Nat)).map (·.2)))) (by rfl) sc_unit.nd (pi_range1 (by rfl) z.range (pa_cons (pv 0) pa_nil)) (blkOk_by (own := [("row", 1)]) (N := ["many", "row", "column"]) (sc := defScope s_unit) (by decide +kernel)) (fun _ _ _ _ _ => by exact (pg_name (i := 1) sc_unit.nd rfl (.inr rfl))) (fun _ _ _ _ _ => by exact pts_nil) (fun _ _ _ _ _ => by exact (@pe_lc _ _ _ _ _ _ _ _ _ _ _ _ (by rfl) sc_unit.nd (pi_range1 (by rfl) z.range (pa_cons (pv 0) pa_nil)) (blkOk_by (own := [("column", 2)]) (N := ["many", "row", "column"]) (sc := ({ kind := PySem.ScopeKind.function, names := [(".0", .local), ("row", .cell), ("range", .globalImplicit), ("many", .cell)], isGenerator := false, isCoroutine := false, more := [] })) (by decide +kernel)) (fun _ _ _ _ _ => by exact (pg_name (i := 2) sc_unit.nd rfl (.inl rfl))) (fun _ _ _ _ _ => by exact pts_nil) (fun _ _ _ _ _ => by exact (pe_ifExp (pt_cmpR op_eq (pv 1) (pv 2) (nomark _)) (pe_glob (v := .ref AO) (by rfl) g_ONE rfl) (pe_glob (v := .ref AN) (by rfl) g_NOUGHT rfl))) (by intro _; rfl))))))), ?_⟩
    refine ⟨_, rfl, _, _, rfl, WholeIs.int _, ?_⟩
    refine ⟨_, rfl, iteF ?_⟩
    refine ⟨_, rfl, _, _, rfl, rfl, _, rfl, iteC (d := true) (decide_eq_true (by omega)) (iteT ⟨_, _, rfl, rfl, _, rfl, iteC (d := false) (by rw [decide_eq_true (show ((n : Nat) : Int) ≤ 10 by omega)]; rfl) (iteF ?_)⟩)⟩
    refine ⟨_, rfl, n, rfl, by omega, by omega, fun D hD => ?_⟩
    rw [Int.toNat_natCast]
    refine lc_range (lo := 0) (n := n) (fun i X => Same H X ∧ OwnM K H X D ((List.range i).map fun i => (List.range n).map fun j => if i = j then 1 else 0)) ⟨same_new hD, OwnM.nil upd_same⟩ (fun i X hi hP => ?_) (fun X hP => k D X hD hP.1 hP.2)
    obtain ⟨sX, OM⟩ := hP
    refine ⟨rfl, ?_⟩
    refine ⟨_, rfl, n, rfl, by omega, by omega, fun D4 hD4 => ?_⟩
    rw [Int.toNat_natCast]
    refine lc_range (lo := 0) (n := n) (fun j Y => Same X Y ∧ ∃ vs, Y D4 = some (.lst vs) ∧ FrsK K Y vs ((List.range j).map fun j => if i = j then 1 else 0)) ⟨same_new hD4, [], upd_same, rfl, fun i q e => by cases e⟩ (fun j Y hj hQ2 => ?_) (fun Y hQ2 => ?_)
    · obtain ⟨sY, vs4, hacc4, fr4⟩ := hQ2
      refine ⟨rfl, ?_⟩
      have lv := fr4.1
      rw [List.length_map, List.length_range] at lv
      have fin : ∀ (p : Addr) (q : Rat), SqT K Y p [.int q.num, .int (q.den : Int)] → (if i = j then (1 : Rat) else 0) = q → ∃ us, Y D4 = some (.lst us) ∧ us.length < sizeLine ∧ Same X (upd Y D4 (.lst (us ++ [.ref p]))) ∧ ∃ vs, (upd Y D4 (.lst (us ++ [.ref p]))) D4 = some (.lst vs) ∧ FrsK K (upd Y D4 (.lst (us ++ [.ref p]))) vs ((List.range (j + 1)).map fun j => if i = j then 1 else 0) := fun p q hp hq => by
        refine ⟨vs4, hacc4, small1000 (by omega), fun c o e => ?_, vs4 ++ [.ref p], upd_same, ?_⟩
        · rw [upd_ne (ne_of_none e hD4)]
          exact sY _ _ e
        · rw [List.range_succ, List.map_append]
          refine FrsK.app (fr4.but SameBut.upd hacc4) (q := if i = j then 1 else 0) ?_
          rw [hq]
          exact sqT_but hp SameBut.upd hacc4
      refine ⟨_, rfl, _, rfl, rfl, ?_⟩
      refine ⟨_, rfl, ite2 (fun c1 => fin AO 1 (tO _) ?_) (fun c1 => fin AN 0 (tN _) ?_)⟩
      · have := V.int.inj (toB c1)
        rw [if_pos (by omega)]
      · have : ¬ ((0 : Int) + (i : Int) = 0 + (j : Int)) := fun z => toNB c1 (congrArg V.int z)
        rw [if_neg (by omega)]
    · obtain ⟨sY, vs4, e4, f4⟩ := hQ2
      obtain ⟨us, e9, l9, om9⟩ := OM.add sX sY hD4 ⟨vs4, e4, f4⟩
      rw [List.length_map, List.length_range] at l9
      refine ⟨us, e9, small1000 (by omega), fun c o e => ?_, ?_⟩
      · rw [upd_ne (ne_of_none e hD)]
        exact sY _ _ (sX _ _ e)
      · rw [List.range_succ, List.map_append]
        exact om9
theorem sc_sum_of : FnScope ["one", "other", "row", "other_row", "place", "beside"] ["one", "other"] (defScope s_sum_of) := ⟨rfl, rfl, rfl, by decide +kernel, rfl, by decide +kernel, by decide +kernel⟩
theorem ok_sum_of {f : Addr} {fd : FuncData} (F : Fun K "sum_of" "sum_of" s_sum_of f fd) (z : Zs mg) (c_check_matrix : Cal P w K mg base 6 "check_matrix" ["thing"] spChkM) (c_shape_of : Cal P w K mg base 1 "shape_of" ["matrix"] spShape) (c_plus : Cal P w K mg base 3 "plus" ["one", "other"] (spTwo K (fun t u v x => True) (fun t u v x => t * x + v * u) (fun t u v x => u * x))) : FnOk P w K mg base CX0 7 f fd ["one", "other"] (spSumM K) := by
  refine F.ok sc_sum_of (fun vs H Q E h => ?_) (fun cdv A outer s H vs Q E hr h => ?_)
  · obtain ⟨a, c, ss, ts, rfl, _⟩ := h
    rfl
  · obtain ⟨a, c, ss, ts, rfl, ⟨ws, ha, hs⟩, ⟨us, hc, ht⟩, rs, rt, ln, wd, b1, b2, k⟩ := h
    refine ⟨_, (pss_cons (ps_expr (pe_cal c_check_matrix hr (pa_cons (pv 0) pa_nil)))
      (pss_cons (ps_expr (pe_cal c_check_matrix hr (pa_cons (pv 1) pa_nil)))
      (pss_cons (ps_if (pt_cmpR (op_neD hr.units) (pe_cal c_shape_of hr (pa_cons (pv 0) pa_nil)) (pe_cal c_shape_of hr (pa_cons (pv 1) pa_nil)) (nomark _)) (pss_one ps_never) pss_nil)
      (pss_one (ps_ret (pe_lc (own := [("row", 2), ("other_row", 3)]) (g := gTup K 2 (gCons (gName 2) (gCons (gName 3) gNil))) (tt := tYes) (te := (tLc (RZ.iZipA K (tCons (tVar 2) (tCons (tVar 3) tNil))) (gTup K 2 (gCons (gName 4) (gCons (gName 5) gNil))) tYes (tCall (spTwo K (fun t u v x => True) (fun t u v x => t * x + v * u) (fun t u v x => u * x)) [] E0 (tCons (tVar 4) (tCons (tVar 5) tNil))) (([("place", 4), ("beside", 5)] : List (Str × Nat)).map (·.2)))) (by rfl) sc_sum_of.nd (RZ.pi_zipA (by rfl) z.zip (pa_cons (pv 0) (pa_cons (pv 1) pa_nil))) (blkOk_by (own := [("row", 2), ("other_row", 3)]) (N := ["one", "other", "row", "other_row", "place", "beside"]) (sc := defScope s_sum_of) (by decide +kernel)) (fun _ _ _ _ _ => by exact (pg_tup (by rfl) (pgs_cons (pg_name (i := 2) sc_sum_of.nd rfl (.inl rfl)) (pgs_cons (pg_name (i := 3) sc_sum_of.nd rfl (.inl rfl)) pgs_nil)))) (fun _ _ _ _ _ => by exact pts_nil) (fun _ _ _ _ _ => by exact (@pe_lc _ _ _ _ _ _ _ _ _ _ _ _ (by rfl) sc_sum_of.nd (RZ.pi_zipA (by rfl) z.zip (pa_cons (pv 2) (pa_cons (pv 3) pa_nil))) (blkOk_by (own := [("place", 4), ("beside", 5)]) (N := ["one", "other", "row", "other_row", "place", "beside"]) (sc := ({ kind := PySem.ScopeKind.function, names := [(".0", .local), ("row", .local), ("other_row", .local), ("zip", .globalImplicit)], isGenerator := false, isCoroutine := false, more := [] })) (by decide +kernel)) (fun _ _ _ _ _ => by exact (pg_tup (by rfl) (pgs_cons (pg_name (i := 4) sc_sum_of.nd rfl (.inl rfl)) (pgs_cons (pg_name (i := 5) sc_sum_of.nd rfl (.inl rfl)) pgs_nil)))) (fun _ _ _ _ _ => by exact pts_nil) (fun _ _ _ _ _ => by exact (pe_cal c_plus hr (pa_cons (pv 4) (pa_cons (pv 5) pa_nil)))) (by intro _; rfl))))))))), ?_⟩
    refine ⟨_, rfl, a, ws, ss, rfl, ha, hs, rs, fun H1 s1 => ?_⟩
    refine ⟨_, rfl, c, us, ts, rfl, s1 _ _ hc, ht.same s1, rt, fun H2 s2 => ?_⟩
    have S2 := s1.trans s2
    refine ⟨_, rfl, a, ws, ss, rfl, S2 _ _ ha, hs.same S2, rs, fun p1 h1 => ?_⟩
    have e1 := same_new (o := .tup [.int (ss.length : Nat), .int (widR ss : Nat)]) h1
    have S3 := S2.trans e1
    refine ⟨_, rfl, c, us, ts, rfl, S3 _ _ hc, ht.same S3, rt, fun p2 h2 => ?_⟩
    have e2 := same_new (o := .tup [.int (ts.length : Nat), .int (widR ts : Nat)]) h2
    have S4 := S3.trans e2
    have eD : ∀ m n : Int, PyData.eqv (.tuple [.int m, .int n]) (.tuple [.int m, .int n]) = true := fun m n => SeqAt.eqv_refl _ (SeqAt.canLay_of_shaped rfl)
    refine ⟨.tuple [.int (ss.length : Nat), .int (widR ss : Nat)], .tuple [.int (ss.length : Nat), .int (widR ss : Nat)], .tup (SqT.of (e2 _ _ upd_same)) (.cons (.int _) (.cons (.int _) .nil)), .tup (SqT.of (by rw [ln, wd]; exact upd_same)) (.cons (.int _) (.cons (.int _) .nil)), rfl, rfl, _, rfl, ?_⟩
    rw [eD]
    refine iteF ?_
    have ha4 := S4 _ _ ha
    have hc4 := S4 _ _ hc
    have hs4 := hs.same S4
    have ht4 := ht.same S4
    have lw := hs.1
    have lu := ht.1
    have n10 := rs.n10
    refine ⟨_, rfl, _, rfl, a, c, ws, us, rfl, .inl ⟨SqL.of ha4, SqL.of hc4, fun D hD => ?_⟩⟩
    refine lc_it (walk_zip (K := K) (a := a) (b := c) (xs := ws) (ys := us) rfl) (fun i G => Same H G ∧ OwnM K H G D (addM (ss.take i) (ts.take i))) ⟨S4.trans (same_new hD), OwnM.nil upd_same⟩ (fun i G _ hP => ⟨SqL.of (hP.1 _ _ ha), SqL.of (hP.1 _ _ hc)⟩) (fun i x G G2 hi hP hY => ?_) (fun G hP => ?_)
    · obtain ⟨sG, OM⟩ := hP
      obtain ⟨Tp, u, v, rfl, nT, rfl, e1, e2⟩ := hY
      obtain ⟨b, r, rfl, hr2, fb⟩ := hs.get e1
      obtain ⟨b', r', rfl, hr2', fb'⟩ := ht.get e2
      have sN := same_new (o := .tup [.ref b, .ref b']) nT
      have SG := sG.trans sN
      have li := (List.getElem?_eq_some_iff.mp hr2).1
      have mr := List.mem_of_getElem? hr2
      have mr' := List.mem_of_getElem? hr2'
      have wr := rs.row mr
      have wr' := rt.row mr'
      obtain ⟨rv, hb, lb, fv⟩ := (fb.same SG).len
      obtain ⟨rv', hb', lb', fv'⟩ := (fb'.same SG).len
      refine ⟨Tp, _, rfl, SqT.of upd_same, rfl, _, _, rfl, _, _, rfl, rfl, rfl, ?_⟩
      refine ⟨_, rfl, _, rfl, b, b', rv, rv', rfl, .inl ⟨SqL.of hb, SqL.of hb', fun D4 hD4 => ?_⟩⟩
      refine lc_it (walk_zip (K := K) (a := b) (b := b') (xs := rv) (ys := rv') rfl) (fun j Y => Same (upd G Tp (.tup [.ref b, .ref b'])) Y ∧ FrL Y D4 (addR (r.take j) (r'.take j))) ⟨same_new hD4, [], upd_same, .nil⟩ (fun j Y _ hP => ⟨SqL.of (hP.1 _ _ hb), SqL.of (hP.1 _ _ hb')⟩) (fun j x Y Y2 hj hQ hY => ?_) (fun Y hQ => ?_)
      · obtain ⟨sY, vs, hv, fr⟩ := hQ
        obtain ⟨Tq, u, v, rfl, nT2, rfl, e3, e4⟩ := hY
        obtain ⟨p, q, rfl, hq, hp⟩ := FrsAt.get fv e3
        obtain ⟨p', q', rfl, hq', hp'⟩ := FrsAt.get fv' e4
        have sN2 := same_new (o := .tup [.ref p, .ref p']) nT2
        have SY := sY.trans sN2
        have lj := (List.getElem?_eq_some_iff.mp hq).1
        obtain ⟨z1, z2⟩ := b1 r mr q (List.mem_of_getElem? hq)
        obtain ⟨z3, z4⟩ := b2 r' mr' q' (List.mem_of_getElem? hq')
        have z2' : ((q.den : Int)).natAbs < 2 ^ 150 := by rw [Int.natAbs_natCast]; exact z2
        have z4' : ((q'.den : Int)).natAbs < 2 ^ 150 := by rw [Int.natAbs_natCast]; exact z4
        refine ⟨Tq, _, rfl, SqT.of upd_same, rfl, _, _, rfl, _, _, rfl, rfl, rfl, ?_⟩
        refine ⟨_, rfl, _, rfl, p, p', q.num, q.den, q'.num, q'.den, rfl, SqT.of (SY _ _ hp), SqT.of (SY _ _ hp'), trivial, den_ge q, den_ge q', up z1 (by decide), up z2' (by decide), up z3 (by decide), up z4' (by decide), fun t ht => ?_⟩
        have st := same_new (o := .tup [.int (lowT (q.num * q'.den + q'.num * q.den) (q.den * q'.den)), .int (lowB (q.num * q'.den + q'.num * q.den) (q.den * q'.den))]) ht
        have hv2 := sN2 _ _ hv
        have nt : t ≠ D4 := fun e => by
          rw [e, hv2] at ht
          cases ht
        have lv := FrsAt.len fr
        rw [addR_len, List.length_take, List.length_take] at lv
        refine ⟨vs, st _ _ hv2, small1000 (by omega), fun c o e => ?_, vs ++ [.ref t], upd_same, ?_⟩
        · rw [upd_ne (ne_of_none e hD4)]
          exact st _ _ (SY _ _ e)
        · rw [addR_take r r' j q q' hq hq']
          refine FrsAt.app (PrsAt.but (PrsAt.same (PrsAt.same fr sN2) st) SameBut.upd (st _ _ hv2)) (FrsAt.one ?_)
          have f1 : Fr (upd (upd Y Tq (.tup [.ref p, .ref p'])) t (.tup [.int (lowT (q.num * q'.den + q'.num * q.den) (q.den * q'.den)), .int (lowB (q.num * q'.den + q'.num * q.den) (q.den * q'.den))])) t (q + q') := Fr.low (t := q.num * q'.den + q'.num * q.den) (b := (q.den * q'.den : Int)) (Int.mul_ne_zero (den_ne q) (den_ne q')) (plus_q q q') upd_same
          show (upd (upd (upd Y Tq _) t _) D4 _) t = _
          rw [upd_ne nt]
          exact f1
      · obtain ⟨sY, fr⟩ := hQ
        rw [show min rv.length rv'.length = r.length by omega, List.take_length, List.take_of_length_le (by omega)] at fr
        obtain ⟨us9, e9, l9, om9⟩ := OM.add sG (sN.trans sY) (sN.free hD4) fr.k
        rw [addM_len, List.length_take, List.length_take] at l9
        refine ⟨us9, e9, small1000 (by omega), fun c o e => ?_, ?_⟩
        · rw [upd_ne (ne_of_none (S4 _ _ e) hD)]
          exact sY _ _ (SG _ _ e)
        · rw [addM_take ss ts i r r' hr2 hr2']
          exact om9
    · obtain ⟨sG, OM⟩ := hP
      rw [show min ws.length us.length = ss.length by omega, List.take_length, List.take_of_length_le (by omega)] at OM
      exact k D G (S4.free hD) sG OM
theorem sc_scaled : FnScope ["matrix", "one", "row", "place"] ["matrix", "one"] (defScope s_scaled) := ⟨rfl, rfl, rfl, by decide +kernel, rfl, by decide +kernel, by decide +kernel⟩
theorem ok_scaled {f : Addr} {fd : FuncData} (F : Fun K "scaled" "scaled" s_scaled f fd) (z : Zs mg) (c_check_matrix : Cal P w K mg base 6 "check_matrix" ["thing"] spChkM) (c_is_fraction : Cal P w K mg base 2 "is_fraction" ["thing"] spIsFrac) (c_times : Cal P w K mg base 3 "times" ["one", "other"] (spTwo K (fun t u v x => True) (fun t u v x => t * v) (fun t u v x => u * x))) : FnOk P w K mg base CX0 7 f fd ["matrix", "one"] (spScaled K) := by
  refine F.ok sc_scaled (fun vs H Q E h => ?_) (fun cdv A outer s H vs Q E hr h => ?_)
  · obtain ⟨a, c, ss, q, rfl, _⟩ := h
    rfl
  · obtain ⟨a, c, ss, q, rfl, ⟨ws, ha, hs⟩, rs, hc, b1, b2, k⟩ := h
    refine ⟨_, (pss_cons (ps_expr (pe_cal c_check_matrix hr (pa_cons (pv 0) pa_nil)))
      (pss_cons (ps_if (pt_not (pt_val (pe_cal c_is_fraction hr (pa_cons (pv 1) pa_nil)))) (pss_one ps_never) pss_nil)
      (pss_one (ps_ret (pe_lc (own := [("row", 2)]) (g := gName 2) (tt := tYes) (te := (tLc (iList K (tVar 2)) (gName 3) tYes (tCall (spTwo K (fun t u v x => True) (fun t u v x => t * v) (fun t u v x => u * x)) [] E0 (tCons (tVar 3) (tCons (tVar 1) tNil))) (([("place", 3)] : List (Str × Nat)).map (·.2)))) (by rfl) sc_scaled.nd (pi_list (pv 0)) (blkOk_by (own := [("row", 2)]) (N := ["matrix", "one", "row", "place"]) (sc := defScope s_scaled) (by decide +kernel)) (fun _ _ _ _ _ => by exact (pg_name (i := 2) sc_scaled.nd rfl (.inl rfl))) (fun _ _ _ _ _ => by exact pts_nil) (fun _ _ _ _ _ => by exact (@pe_lc _ _ _ _ _ _ _ _ _ _ _ _ (by rfl) sc_scaled.nd (pi_list (pv 2)) (blkOk_by (own := [("place", 3)]) (N := ["matrix", "one", "row", "place"]) (sc := ({ kind := PySem.ScopeKind.function, names := [(".0", .local), ("row", .local), ("one", .cell)], isGenerator := false, isCoroutine := false, more := [] })) (by decide +kernel)) (fun _ _ _ _ _ => by exact (pg_name (i := 3) sc_scaled.nd rfl (.inl rfl))) (fun _ _ _ _ _ => by exact pts_nil) (fun _ _ _ _ _ => by exact (pe_cal c_times hr (pa_cons (pv 3) (pa_cons (pv 1) pa_nil)))) (by intro _; rfl)))))))), ?_⟩
    refine ⟨_, rfl, a, ws, ss, rfl, ha, hs, rs, fun H1 s1 => ?_⟩
    refine ⟨_, rfl, c, q.num, q.den, rfl, s1 _ _ hc, den_ge q, ?_⟩
    rw [fr_low1]
    refine ⟨_, rfl, iteF ?_⟩
    have ha1 := s1 _ _ ha
    have hs1 := hs.same s1
    have lw := hs.1
    have n10 := rs.n10
    obtain ⟨z3, z4⟩ := b2
    have z4' : ((q.den : Int)).natAbs < 2 ^ 150 := by rw [Int.natAbs_natCast]; exact z4
    refine ⟨_, rfl, a, rfl, ⟨_, SqL.of ha1⟩, fun D hD => lc_list (K := K) (a := a) (xs := ws) (fun i G => Same H G ∧ OwnM K H G D (scR (ss.take i) q)) ⟨s1.trans (same_new hD), OwnM.nil upd_same⟩ (fun i G _ hP => SqL.of (hP.1 _ _ ha)) (fun i x G hx hP => ?_) (fun G hP => ?_)⟩
    · obtain ⟨sG, OM⟩ := hP
      obtain ⟨b, r, rfl, hr2, fb⟩ := hs.get hx
      have li := (List.getElem?_eq_some_iff.mp hr2).1
      have mr := List.mem_of_getElem? hr2
      have wr := rs.row mr
      obtain ⟨rv, hb, lb, fv⟩ := (fb.same sG).len
      refine ⟨rfl, ?_⟩
      refine ⟨_, rfl, b, rfl, ⟨_, SqL.of hb⟩, fun D4 hD4 => lc_list (K := K) (a := b) (xs := rv) (fun j Y => Same G Y ∧ FrL Y D4 ((r.take j).map fun x => x * q)) ⟨same_new hD4, [], upd_same, by rw [List.take_zero]; exact .nil⟩ (fun j Y _ hP => SqL.of (hP.1 _ _ hb)) (fun j x Y hj hQ => ?_) (fun Y hQ => ?_)⟩
      · obtain ⟨sY, vs, hv, fr⟩ := hQ
        obtain ⟨p, y, rfl, hy, hp⟩ := FrsAt.get fv hj
        have lj := (List.getElem?_eq_some_iff.mp hy).1
        obtain ⟨z1, z2⟩ := b1 r mr y (List.mem_of_getElem? hy)
        have z2' : ((y.den : Int)).natAbs < 2 ^ 150 := by rw [Int.natAbs_natCast]; exact z2
        refine ⟨rfl, _, rfl, _, rfl, p, c, y.num, y.den, q.num, q.den, rfl, SqT.of (sY _ _ hp), SqT.of (sY _ _ (sG _ _ hc)), trivial, den_ge y, den_ge q, up z1 (by decide), up z2' (by decide), up z3 (by decide), up z4' (by decide), fun t ht => ?_⟩
        have st := same_new (o := .tup [.int (lowT (y.num * q.num) (y.den * q.den)), .int (lowB (y.num * q.num) (y.den * q.den))]) ht
        have nt : t ≠ D4 := fun e => by
          rw [e, hv] at ht
          cases ht
        have lv := FrsAt.len fr
        rw [List.length_map, List.length_take] at lv
        refine ⟨vs, st _ _ hv, small1000 (by omega), fun c o e => ?_, vs ++ [.ref t], upd_same, ?_⟩
        · rw [upd_ne (ne_of_none e hD4)]
          exact st _ _ (sY _ _ e)
        · rw [show r.take (j + 1) = r.take j ++ [y] by rw [List.take_succ, hy]; rfl, List.map_append]
          refine FrsAt.app (PrsAt.but (PrsAt.same fr st) SameBut.upd (st _ _ hv)) (FrsAt.one ?_)
          have f1 : Fr (upd Y t (.tup [.int (lowT (y.num * q.num) (y.den * q.den)), .int (lowB (y.num * q.num) (y.den * q.den))])) t (y * q) := Fr.low (t := y.num * q.num) (b := (y.den * q.den : Int)) (Int.mul_ne_zero (den_ne y) (den_ne q)) (times_q y q) upd_same
          show (upd (upd Y t _) D4 _) t = _
          rw [upd_ne nt]
          exact f1
      · obtain ⟨sY, fr⟩ := hQ
        rw [List.take_of_length_le (by omega)] at fr
        obtain ⟨us9, e9, l9, om9⟩ := OM.add sG sY hD4 fr.k
        unfold scR at l9
        rw [List.length_map, List.length_take] at l9
        refine ⟨us9, e9, small1000 (by omega), fun c o e => ?_, ?_⟩
        · rw [upd_ne (ne_of_none (s1 _ _ e) hD)]
          exact sY _ _ (sG _ _ e)
        · unfold scR at om9 ⊢
          rw [show ss.take (i + 1) = ss.take i ++ [r] by rw [List.take_succ, hr2]; rfl, List.map_append]
          exact om9
    · obtain ⟨sG, OM⟩ := hP
      rw [List.take_of_length_le (by omega)] at OM
      exact k D G (s1.free hD) sG OM
end
end E1

namespace E1
open PySem PySem.Spec PyProof.Rows L2

def prodD : List Rat → Int
  | [] => 1
  | q :: qs => (q.den : Int) * prodD qs
theorem prodD_ok : ∀ qs : List Rat, 0 < prodD qs ∧ ∀ q ∈ qs, (q.den : Int) ∣ prodD qs
  | [] => ⟨by decide, fun q h => absurd h List.not_mem_nil⟩
  | q :: qs => by
    obtain ⟨h1, h2⟩ := prodD_ok qs
    refine ⟨Int.mul_pos (den_ge q) h1, fun r hr => ?_⟩
    rcases List.mem_cons.mp hr with rfl | hr
    · exact Int.dvd_mul_right _ _
    · exact Int.dvd_trans (h2 r hr) (Int.dvd_mul_left _ _)
theorem prodD_le : ∀ qs : List Rat, (∀ q ∈ qs, Sm q) → (prodD qs).natAbs ≤ 2 ^ (150 * qs.length)
  | [], _ => by decide
  | q :: qs, h => by
    have i := prodD_le qs fun r hr => h r (List.mem_cons_of_mem _ hr)
    have d := (h q (List.mem_cons_self ..)).2
    show ((q.den : Int) * prodD qs).natAbs ≤ _
    rw [Int.natAbs_mul, Int.natAbs_natCast, List.length_cons, Nat.mul_succ, Nat.add_comm, Nat.pow_add]
    exact Nat.mul_le_mul (Nat.le_of_lt d) i
def SmL (qs : List Rat) : Prop := qs.length ≤ 10 ∧ ∀ q ∈ qs, Sm q
theorem SmL.btm {qs : List Rat} (h : SmL qs) : Btm (prodD qs) (qs.map pr) ∧ (prodD qs).natAbs ≤ 2 ^ 1500 := by
  obtain ⟨p0, pd⟩ := prodD_ok qs
  have le : (prodD qs).natAbs ≤ 2 ^ 1500 := Nat.le_trans (prodD_le qs h.2) (Nat.pow_le_pow_right (by decide) (by have := h.1; omega))
  refine ⟨⟨by omega, Nat.lt_of_le_of_lt le (Nat.pow_lt_pow_right (by decide) (by decide)), fun p hp => ?_⟩, le⟩
  obtain ⟨q, hq, rfl⟩ := List.mem_map.mp hp
  exact ⟨den_ge q, pd q hq, up (h.2 q hq).1 (by decide)⟩
/-- the bottom and the tops of a row that has been cleared -/
def cB (qs : List Rat) : Int := com ((qs.map pr).map (·.2))
def tZ (qs : List Rat) : List Int := tops (cB qs) (qs.map pr)
theorem SmL.cb {qs : List Rat} (h : SmL qs) : 0 < cB qs ∧ (cB qs).natAbs ≤ 2 ^ 1500 ∧ ∀ q ∈ qs, (q.den : Int) ∣ cB qs := by
  obtain ⟨b, le⟩ := h.btm
  obtain ⟨c0, cD, cd⟩ := b.com
  refine ⟨c0, ?_, fun q hq => cd (pr q) (List.mem_map_of_mem hq)⟩
  have : (cB qs).natAbs ∣ (prodD qs).natAbs := Int.natAbs_dvd_natAbs.mpr cD
  exact Nat.le_trans (Nat.le_of_dvd (by have := b.1; omega) this) le
theorem SmL.bits {qs : List Rat} (h : SmL qs) : Bits 4000 (tZ qs) := fun x hx => by
  obtain ⟨c0, c1, cd⟩ := h.cb
  unfold tZ tops at hx
  obtain ⟨p, hp, rfl⟩ := List.mem_map.mp hx
  obtain ⟨q, hq, rfl⟩ := List.mem_map.mp hp
  show (q.num * (cB qs / (q.den : Int))).natAbs < _
  have k1 : (cB qs / (q.den : Int)).natAbs ≤ (cB qs).natAbs := by
    have h1 : 0 ≤ cB qs / (q.den : Int) := Int.ediv_nonneg (by omega) (by have := den_ge q; omega)
    have h2 : cB qs / (q.den : Int) ≤ cB qs := Int.ediv_le_self _ (by omega)
    omega
  rw [Int.natAbs_mul]
  have a1 := Nat.mul_le_mul (Nat.le_of_lt (h.2 q hq).1) (Nat.le_trans k1 c1)
  rw [← Nat.pow_add] at a1
  exact Nat.lt_of_le_of_lt a1 (Nat.pow_lt_pow_right (by decide) (by decide))
theorem tZ_len (qs : List Rat) : (tZ qs).length = qs.length := by
  unfold tZ tops
  rw [List.length_map, List.length_map]
theorem top_eq {q : Rat} {c : Int} (h : (q.den : Int) ∣ c) : q * (c : Rat) = ((q.num * (c / (q.den : Int)) : Int) : Rat) := by
  obtain ⟨k, rfl⟩ := h
  have d := den_ge q
  rw [Int.mul_ediv_cancel_left _ (by omega), Rat.intCast_mul, Rat.intCast_mul, ← q_eq q]
  grind
theorem dot_clear {c d : Int} : ∀ xs ys : List Rat, (∀ q ∈ xs, (q.den : Int) ∣ c) → (∀ q ∈ ys, (q.den : Int) ∣ d) → dotR xs ys * (((c * d : Int)) : Rat) = ((dotZ (tops c (xs.map pr)) (tops d (ys.map pr)) : Int) : Rat)
  | [], ys, _, _ => by
    have e1 : dotR [] ys = 0 := by cases ys <;> rfl
    have e2 : dotZ (tops c (List.map pr [])) (tops d (ys.map pr)) = 0 := by cases ys <;> rfl
    rw [e1, e2]
    show (0 : Rat) * _ = ((0 : Int) : Rat)
    rw [Rat.zero_mul]
    rfl
  | x :: xs, [], _, _ => by
    show (0 : Rat) * _ = ((0 : Int) : Rat)
    rw [Rat.zero_mul]
    rfl
  | x :: xs, y :: ys, h1, h2 => by
    have i := dot_clear xs ys (fun q hq => h1 q (List.mem_cons_of_mem _ hq)) fun q hq => h2 q (List.mem_cons_of_mem _ hq)
    have a1 := top_eq (h1 x (List.mem_cons_self ..))
    have a2 := top_eq (h2 y (List.mem_cons_self ..))
    show (x * y + dotR xs ys) * _ = ((((x.num * (c / (x.den : Int))) * (y.num * (d / (y.den : Int))) + dotZ (tops c (xs.map pr)) (tops d (ys.map pr)) : Int)) : Rat)
    rw [Rat.intCast_add, ← i, Rat.intCast_mul (x.num * _), ← a1, ← a2, Rat.intCast_mul]
    grind
theorem met_q {xs ys : List Rat} (h1 : SmL xs) (h2 : SmL ys) : cB xs * cB ys ≠ 0 ∧ (cB xs * cB ys).natAbs < 2 ^ 4000 ∧ Rat.divInt (dotZ (tZ xs) (tZ ys)) (cB xs * cB ys) = dotR xs ys := by
  obtain ⟨c0, c1, cd⟩ := h1.cb
  obtain ⟨e0, e1, ed⟩ := h2.cb
  have ne : cB xs * cB ys ≠ 0 := Int.mul_ne_zero (by omega) (by omega)
  refine ⟨ne, ?_, div_is ne (dot_clear xs ys cd ed)⟩
  rw [Int.natAbs_mul]
  have := Nat.mul_le_mul c1 e1
  rw [← Nat.pow_add] at this
  exact Nat.lt_of_le_of_lt this (Nat.pow_lt_pow_right (by decide) (by decide))
/-- a row as it is cleared -/
def ClrAt (H : Hp) (T : Addr) (qs : List Rat) : Prop := ∃ l, H T = some (.tup [.ref l, .int (cB qs)]) ∧ H l = some (.lst ((tZ qs).map V.int))
theorem ClrAt.same {H H' : Hp} {T : Addr} {qs : List Rat} (h : ClrAt H T qs) (e : Same H H') : ClrAt H' T qs := let ⟨l, h1, h2⟩ := h; ⟨l, e _ _ h1, e _ _ h2⟩
def ClL (H : Hp) (vs : List V) (ss : List (List Rat)) : Prop := vs.length = ss.length ∧ ∀ (i : Nat) (s : List Rat), ss[i]? = some s → ∃ b, vs[i]? = some (.ref b) ∧ ClrAt H b s
theorem ClL.same {H H' : Hp} {vs : List V} {ss : List (List Rat)} (h : ClL H vs ss) (s : Same H H') : ClL H' vs ss := ⟨h.1, fun i x e => let ⟨b, e1, f⟩ := h.2 i x e; ⟨b, e1, f.same s⟩⟩
theorem ClL.get {H : Hp} {vs : List V} {ss : List (List Rat)} (h : ClL H vs ss) {i : Nat} {v : V} (e : vs[i]? = some v) : ∃ b s, v = .ref b ∧ ss[i]? = some s ∧ ClrAt H b s := by
  have hi := (List.getElem?_eq_some_iff.mp e).1
  have e2 : ss[i]? = some (ss[i]'(by rw [← h.1]; exact hi)) := List.getElem?_eq_getElem _
  obtain ⟨b, e3, f⟩ := h.2 i _ e2
  rw [e] at e3
  cases e3
  exact ⟨b, _, rfl, e2, f⟩
/-- the numbers of the rows that are cleared stand apart from D -/
def KP (G : Hp) (D : Addr) (us : List V) (ss : List (List Rat)) : Prop := ∀ (i : Nat) (b : Addr), us[i]? = some (.ref b) → ∃ l, G b = some (.tup [.ref l, .int (cB (ss.getD i []))]) ∧ l ≠ D
/-- one more row that is cleared -/
theorem ClL.add {G G2 : Hp} {D T l : Addr} {us : List V} {ss : List (List Rat)} {s : List Rat} (h : ClL G us ss) (hs : KP G D us ss) (hD : G D = some (.lst us)) (e : Same G G2) (hT : G2 T = some (.tup [.ref l, .int (cB s)])) (hl : G2 l = some (.lst ((tZ s).map V.int))) (nl : l ≠ D) :
    ClL (upd G2 D (.lst (us ++ [.ref T]))) (us ++ [.ref T]) (ss ++ [s]) ∧ KP (upd G2 D (.lst (us ++ [.ref T]))) D (us ++ [.ref T]) (ss ++ [s]) := by
  have e1 := e _ _ hD
  have keep : ∀ (c : Addr) (o : HO), G2 c = some o → (∀ xs, o ≠ .lst xs) ∨ c ≠ D → (upd G2 D (.lst (us ++ [.ref T]))) c = some o := fun c o q w => by
    rw [upd_ne]
    · exact q
    · rintro rfl
      rcases w with w | w
      · rw [e1] at q
        cases q
        exact w _ rfl
      · exact w rfl
  have low : ∀ i, i < us.length → (us ++ [V.ref T])[i]? = us[i]? := fun i hi => List.getElem?_append_left hi
  have tup : ∀ (i : Nat) (b : Addr), (us ++ [V.ref T])[i]? = some (.ref b) → ∃ l, (upd G2 D (.lst (us ++ [.ref T]))) b = some (.tup [.ref l, .int (cB ((ss ++ [s]).getD i []))]) ∧ l ≠ D ∧ (i < us.length ∨ i = us.length ∧ b = T) := fun i b q => by
    by_cases c : i < us.length
    · rw [low i c] at q
      obtain ⟨l9, f1, f2⟩ := hs i b q
      refine ⟨l9, ?_, f2, .inl c⟩
      rw [List.getD_eq_getElem?_getD, List.getElem?_append_left (by rw [← h.1]; exact c), ← List.getD_eq_getElem?_getD]
      exact keep b _ (e _ _ f1) (.inl fun xs z => by cases z)
    · rw [List.getElem?_append_right (by omega)] at q
      have z : i - us.length = 0 := by
        have := (List.getElem?_eq_some_iff.mp q).1
        simp at this
        exact this
      have ei : i = us.length := by omega
      rw [z] at q
      cases q
      refine ⟨l, ?_, nl, .inr ⟨ei, rfl⟩⟩
      rw [List.getD_eq_getElem?_getD, List.getElem?_append_right (by rw [← h.1]; omega), ← h.1, z]
      exact keep T _ hT (.inl fun xs y => by cases y)
  refine ⟨⟨by rw [List.length_append, List.length_append, h.1]; rfl, fun i r q => ?_⟩, fun i b q => let ⟨l9, f1, f2, _⟩ := tup i b q; ⟨l9, f1, f2⟩⟩
  by_cases c : i < us.length
  · rw [List.getElem?_append_left (by rw [← h.1]; exact c)] at q
    obtain ⟨b, g1, l9, g2, g3⟩ := h.2 i r q
    obtain ⟨l8, f1, f2⟩ := hs i b g1
    rw [g2] at f1
    have e9 : l9 = l8 := V.ref.inj (List.cons.inj (HO.tup.inj (Option.some.inj f1))).1
    subst e9
    exact ⟨b, by rw [low i c]; exact g1, l9, keep b _ (e _ _ g2) (.inl fun xs z => by cases z), keep l9 _ (e _ _ g3) (.inr f2)⟩
  · rw [List.getElem?_append_right (by rw [← h.1]; omega)] at q
    have z : i - ss.length = 0 := by
      have := (List.getElem?_eq_some_iff.mp q).1
      simp at this
      exact this
    rw [z] at q
    cases q
    refine ⟨T, by rw [List.getElem?_append_right (by omega), h.1, z]; rfl, l, keep T _ hT (.inl fun xs y => by cases y), keep l _ hl (.inr nl)⟩
def spMet : Sp := fun vs H Q _ => ∃ (T U : Addr) (xs ys : List Rat), vs = [.ref T, .ref U] ∧ ClrAt H T xs ∧ ClrAt H U ys ∧ SmL xs ∧ SmL ys ∧ ∀ p H', H p = none → Same H H' → Fr H' p (dotR xs ys) → Q (.ref p) H'
def prodM (ss ts : List (List Rat)) : List (List Rat) := ss.map fun r => (turnR ts (widR ts)).map fun s => dotR r s
def spProdM (K : PySem.W.Frag) : Sp := fun vs H Q _ => ∃ (a c : Addr) (ss ts : List (List Rat)), vs = [.ref a, .ref c] ∧ MatAt H a ss ∧ MatAt H c ts ∧ Rec ss ∧ Rec ts ∧ widR ss = ts.length ∧ SmM ss ∧ SmM ts ∧
  ∀ p H', H p = none → Same H H' → OwnM K H H' p (prodM ss ts) → Q (.ref p) H'
def spLed : Sp := fun vs H Q _ => ∃ (a c : Addr) (ss : List (List Rat)) (xs : List Rat), vs = [.ref a, .ref c] ∧ MatAt H a ss ∧ FrL H c xs ∧ Rec ss ∧ xs.length = widR ss ∧ SmM ss ∧ (∀ q ∈ xs, Sm q) ∧
  ∀ p H', H p = none → Same H H' → FrL H' p (ss.map fun r => dotR r xs) → Q (.ref p) H'
section
variable {P : Program} {w : World} {K : PySem.W.Frag} {mg : Str → Option Value} {base : Heap}
theorem sc_met : FnScope ["row", "column"] ["row", "column"] (defScope s_met) := ⟨rfl, rfl, rfl, by decide +kernel, rfl, by decide +kernel, by decide +kernel⟩
theorem ok_met {f : Addr} {fd : FuncData} (F : Fun K "met" "met" s_met f fd) (c_lowest : Cal P w K mg base 2 "lowest" ["top", "bottom"] spLow) (c_dot : Cal P w K mg base 1 "dot" ["numbers", "others"] spDot) : FnOk P w K mg base CX0 3 f fd ["row", "column"] spMet := by
  refine F.ok sc_met (fun vs H Q E h => ?_) (fun cdv A outer s H vs Q E hr h => ?_)
  · obtain ⟨T, U, xs, ys, rfl, _⟩ := h
    rfl
  · obtain ⟨T, U, xs, ys, rfl, ⟨l, hT, hl⟩, ⟨m, hU, hm⟩, sx, sy, k⟩ := h
    refine ⟨_, (pss_one (ps_ret (pe_cal c_lowest hr (pa_cons (pe_cal c_dot hr (pa_cons (pe_ix ix_tup (pv 0) pe_int (fun _ _ => rfl)) (pa_cons (pe_ix ix_tup (pv 1) pe_int (fun _ _ => rfl)) pa_nil))) (pa_cons (pe_op op_mulW (pe_ix ix_tup (pv 0) pe_int (fun _ _ => rfl)) (pe_ix ix_tup (pv 1) pe_int (fun _ _ => rfl))) pa_nil))))), ?_⟩
    obtain ⟨n0, n9, eq⟩ := met_q sx sy
    have x9 := sx.cb.2.1
    have y9 := sy.cb.2.1
    have x8 : (cB xs).natAbs < 2 ^ 1501 := Nat.lt_of_le_of_lt x9 (Nat.pow_lt_pow_right (by decide) (by decide))
    have y8 : (cB ys).natAbs < 2 ^ 1501 := Nat.lt_of_le_of_lt y9 (Nat.pow_lt_pow_right (by decide) (by decide))
    refine ⟨_, rfl, T, _, 0, .ref l, rfl, rfl, SqT.of hT, a0, _, rfl, U, _, 0, .ref m, rfl, rfl, SqT.of hU, a0, l, m, tZ xs, tZ ys, rfl, hl, hm, by rw [tZ_len]; have := sx.1; omega, sx.bits, sy.bits, fun H1 s1 => ?_⟩
    refine ⟨_, rfl, T, _, 1, .int (cB xs), rfl, rfl, SqT.of (s1 _ _ hT), a1, _, rfl, U, _, 1, .int (cB ys), rfl, rfl, SqT.of (s1 _ _ hU), a1, _, _, rfl, rfl, wide_mul x8 y8 (by decide) (by decide) (by decide), _, _, rfl, n0, n9, fun p hp => ?_⟩
    exact k p _ (s1.free hp) (s1.trans (same_new hp)) (Fr.low n0 eq upd_same)
theorem sc_product : FnScope ["one", "other", "columns", "rows", "column", "row", "left", "right"] ["one", "other"] (defScope s_product) := ⟨rfl, rfl, rfl, by decide +kernel, rfl, by decide +kernel, by decide +kernel⟩
theorem ok_product {f : Addr} {fd : FuncData} (F : Fun K "product" "product" s_product f fd) (z : Zs mg) (c_check_matrix : Cal P w K mg base 6 "check_matrix" ["thing"] spChkM) (c_shape_of : Cal P w K mg base 1 "shape_of" ["matrix"] spShape) (c_cleared : Cal P w K mg base 3 "cleared" ["pairs"] spCleared) (c_turned_over : Cal P w K mg base 1 "turned_over" ["matrix"] (spTurn K)) (c_met : Cal P w K mg base 3 "met" ["row", "column"] spMet) : FnOk P w K mg base CX0 7 f fd ["one", "other"] (spProdM K) := by
  refine F.ok sc_product (fun vs H Q E h => ?_) (fun cdv A outer s H vs Q E hr h => ?_)
  · obtain ⟨a, c, ss, ts, rfl, _⟩ := h
    rfl
  · obtain ⟨a, c, ss, ts, rfl, ⟨ws, ha, hs⟩, ⟨us, hc, ht⟩, rs, rt, wd, b1, b2, k⟩ := h
    refine ⟨_, (pss_cons (ps_expr (pe_cal c_check_matrix hr (pa_cons (pv 0) pa_nil)))
      (pss_cons (ps_expr (pe_cal c_check_matrix hr (pa_cons (pv 1) pa_nil)))
      (pss_cons (ps_if (pt_cmpR op_ne (pe_ix ix_tup (pe_cal c_shape_of hr (pa_cons (pv 0) pa_nil)) pe_int (fun _ _ => rfl)) (pe_callB call_len_seq (by rfl) z.len PySem.boot_len (pa_cons (pv 1) pa_nil)) (nomark _)) (pss_one ps_never) pss_nil)
      (pss_cons (ps_set (i := 2) sc_product.nd rfl (.inr rfl) (pe_lc (own := [("column", 4)]) (g := gName 4) (tt := tYes) (te := (tCall spCleared [] E0 (tCons (tVar 4) tNil))) (by rfl) sc_product.nd (pi_list (pe_cal c_turned_over hr (pa_cons (pv 1) pa_nil))) (blkOk_by (own := [("column", 4)]) (N := ["one", "other", "columns", "rows", "column", "row", "left", "right"]) (sc := defScope s_product) (by decide +kernel)) (fun _ _ _ _ _ => by exact (pg_name (i := 4) sc_product.nd rfl (.inl rfl))) (fun _ _ _ _ _ => by exact pts_nil) (fun _ _ _ _ _ => by exact (pe_cal c_cleared hr (pa_cons (pv 4) pa_nil)))))
      (pss_cons (ps_setLc (i := 3) (own := [("row", 5)]) (g := gName 5) (tt := tYes) (te := (tCall spCleared [] E0 (tCons (tVar 5) tNil))) (by rfl) sc_product.nd rfl rfl (sw_true rfl rfl rfl (by decide +kernel)) (pi_list (pv 0)) (blkOk_by (own := [("row", 5)]) (N := ["one", "other", "columns", "rows", "column", "row", "left", "right"]) (sc := defScope s_product) (by decide +kernel)) (fun _ _ _ _ _ => by exact (pg_name (i := 5) sc_product.nd rfl (.inl rfl))) (fun _ _ _ _ _ => by exact pts_nil) (fun _ _ _ _ _ => by exact (pe_cal c_cleared hr (pa_cons (pv 5) pa_nil))))
      (pss_one (ps_ret (pe_lc (own := [("left", 6)]) (g := gName 6) (tt := tYes) (te := (tLc (iList K (tVar 2)) (gName 7) tYes (tCall spMet [] E0 (tCons (tVar 6) (tCons (tVar 7) tNil))) (([("right", 7)] : List (Str × Nat)).map (·.2)))) (by rfl) sc_product.nd (pi_list (pv 3)) (blkOk_by (own := [("left", 6)]) (N := ["one", "other", "columns", "rows", "column", "row", "left", "right"]) (sc := defScope s_product) (by decide +kernel)) (fun _ _ _ _ _ => by exact (pg_name (i := 6) sc_product.nd rfl (.inr rfl))) (fun _ _ _ _ _ => by exact pts_nil) (fun _ _ _ _ _ => by exact (@pe_lc _ _ _ _ _ _ _ _ _ _ _ _ (by rfl) sc_product.nd (pi_list (pv 2)) (blkOk_by (own := [("right", 7)]) (N := ["one", "other", "columns", "rows", "column", "row", "left", "right"]) (sc := ({ kind := PySem.ScopeKind.function, names := [(".0", .local), ("left", .cell), ("columns", .cell)], isGenerator := false, isCoroutine := false, more := [] })) (by decide +kernel)) (fun _ _ _ _ _ => by exact (pg_name (i := 7) sc_product.nd rfl (.inl rfl))) (fun _ _ _ _ _ => by exact pts_nil) (fun _ _ _ _ _ => by exact (pe_cal c_met hr (pa_cons (pv 6) (pa_cons (pv 7) pa_nil)))) (by intro _; rfl))))))))))), ?_⟩
    refine ⟨_, rfl, a, ws, ss, rfl, ha, hs, rs, fun H1 s1 => ?_⟩
    refine ⟨_, rfl, c, us, ts, rfl, s1 _ _ hc, ht.same s1, rt, fun H2 s2 => ?_⟩
    have S2 := s1.trans s2
    have lw := hs.1
    have lu := ht.1
    have n10 := rs.n10
    have m10 := rt.n10
    have w10 := rt.w10
    refine ⟨_, rfl, a, ws, ss, rfl, S2 _ _ ha, hs.same S2, rs, fun p1 h1 => ?_⟩
    have e1 := same_new (o := .tup [.int (ss.length : Nat), .int (widR ss : Nat)]) h1
    have S3 := S2.trans e1
    refine ⟨p1, _, 1, .int (widR ss : Nat), rfl, rfl, SqT.of upd_same, a1, ?_⟩
    refine ⟨_, rfl, c, _, rfl, .inl (SqL.of (S3 _ _ hc)), ?_⟩
    refine ⟨rfl, _, rfl, iteC (d := false) (by rw [wd, lu]; simp) (iteF ?_)⟩
    refine ⟨_, rfl, c, us, ts, widR ts, rfl, S3 _ _ hc, ht.same S3, rt.wid, m10, by omega, (fun e => by rw [e]; rfl), fun p vp H4 hp s4 ep sp _ => ?_⟩
    have S4 := S3.trans s4
    have smr0 : ∀ r ∈ ss, SmL r := fun r hr => ⟨(rs.row hr).2.2, b1 r hr⟩
    have lt : (turnR ts (widR ts)).length = widR ts := by unfold turnR; rw [List.length_map, List.length_range]
    have smc : ∀ r ∈ turnR ts (widR ts), SmL r := fun r hr => by
      unfold turnR at hr
      obtain ⟨j, hj, rfl⟩ := List.mem_map.mp hr
      refine ⟨by rw [List.length_map]; exact m10, fun q hq => ?_⟩
      obtain ⟨s9, hs9, rfl⟩ := List.mem_map.mp hq
      have w9 := rt.wid s9 hs9
      have lj := List.mem_range.mp hj
      rw [List.getD_eq_getElem?_getD, List.getElem?_eq_getElem (by omega)]
      exact b2 s9 hs9 _ (List.getElem_mem _)
    have lp := sp.1
    refine ⟨p, rfl, ⟨_, SqL.of ep⟩, fun D1 hD1 => lc_list (K := K) (a := p) (xs := vp) (fun i G => Same H4 G ∧ ∃ us9, G D1 = some (.lst us9) ∧ ClL G us9 ((turnR ts (widR ts)).take i) ∧ KP G D1 us9 ((turnR ts (widR ts)).take i)) ⟨same_new hD1, [], upd_same, ⟨rfl, fun i s e => by rw [List.take_zero] at e; cases e⟩, fun i b e => by cases e⟩ (fun i G _ hP => SqL.of (hP.1 _ _ ep)) (fun i x G hx hP => ?_) (fun H5 hP => ?_)⟩
    · obtain ⟨sG, us9, e9, cl9, kp9⟩ := hP
      obtain ⟨b, r, rfl, hr2, fb⟩ := (sp).get hx
      have li := (List.getElem?_eq_some_iff.mp hr2).1
      have smr := smc r (List.mem_of_getElem? hr2)
      obtain ⟨rv, hb, lb, fv⟩ := (fb.same sG).len
      have l9 := cl9.1
      rw [List.length_take] at l9
      refine ⟨rfl, _, rfl, b, rv, r.map pr, prodD r, rfl, hb, fv, smr.btm.1, by rw [List.length_map]; have := smr.1; omega, fun T l G2 hl0 hT0 sG2 hT hl => ?_⟩
      obtain ⟨f1, f2⟩ := ClL.add cl9 kp9 e9 sG2 hT hl (fun z => by rw [z, e9] at hl0; cases hl0)
      have tk : (turnR ts (widR ts)).take (i + 1) = (turnR ts (widR ts)).take i ++ [r] := by rw [List.take_succ, hr2]; rfl
      refine ⟨us9, sG2 _ _ e9, small1000 (by omega), fun c o e => ?_, us9 ++ [.ref T], upd_same, ?_, ?_⟩
      · rw [upd_ne (ne_of_none e hD1)]
        exact sG2 _ _ (sG _ _ e)
      · rw [tk]
        exact f1
      · rw [tk]
        exact f2
    obtain ⟨s5, vC, eC, cC, _⟩ := hP
    rw [List.take_of_length_le (by omega)] at cC
    have S5 := S4.trans s5
    have ha5 := S5 _ _ ha
    have hs5 := hs.same S5
    refine ⟨_, rfl, a, rfl, ⟨_, SqL.of ha5⟩, fun D2 hD2 => lc_list (K := K) (a := a) (xs := ws) (fun i G => Same H5 G ∧ ∃ us9, G D2 = some (.lst us9) ∧ ClL G us9 ((ss).take i) ∧ KP G D2 us9 ((ss).take i)) ⟨same_new hD2, [], upd_same, ⟨rfl, fun i s e => by rw [List.take_zero] at e; cases e⟩, fun i b e => by cases e⟩ (fun i G _ hP => SqL.of (hP.1 _ _ ha5)) (fun i x G hx hP => ?_) (fun G6 hP => ?_)⟩
    · obtain ⟨sG, us9, e9, cl9, kp9⟩ := hP
      obtain ⟨b, r, rfl, hr2, fb⟩ := (hs5).get hx
      have li := (List.getElem?_eq_some_iff.mp hr2).1
      have smr := smr0 r (List.mem_of_getElem? hr2)
      obtain ⟨rv, hb, lb, fv⟩ := (fb.same sG).len
      have l9 := cl9.1
      rw [List.length_take] at l9
      refine ⟨rfl, _, rfl, b, rv, r.map pr, prodD r, rfl, hb, fv, smr.btm.1, by rw [List.length_map]; have := smr.1; omega, fun T l G2 hl0 hT0 sG2 hT hl => ?_⟩
      obtain ⟨f1, f2⟩ := ClL.add cl9 kp9 e9 sG2 hT hl (fun z => by rw [z, e9] at hl0; cases hl0)
      have tk : (ss).take (i + 1) = (ss).take i ++ [r] := by rw [List.take_succ, hr2]; rfl
      refine ⟨us9, sG2 _ _ e9, small1000 (by omega), fun c o e => ?_, us9 ++ [.ref T], upd_same, ?_, ?_⟩
      · rw [upd_ne (ne_of_none e hD2)]
        exact sG2 _ _ (sG _ _ e)
      · rw [tk]
        exact f1
      · rw [tk]
        exact f2
    obtain ⟨s6, vR, eR, cR, _⟩ := hP
    rw [List.take_of_length_le (by omega)] at cR
    have eC6 := s6 _ _ eC
    have cC6 := cC.same s6
    have S6 := S5.trans s6
    have lC := cC.1
    have lR := cR.1
    refine ⟨_, rfl, D2, rfl, ⟨_, SqL.of eR⟩, fun D hD => lc_list (K := K) (a := D2) (xs := vR) (fun i G => Same G6 G ∧ OwnM K H G D (prodM (ss.take i) ts)) ⟨same_new hD, OwnM.nil upd_same⟩ (fun i G _ hP => SqL.of (hP.1 _ _ eR)) (fun i x G hx hP => ?_) (fun G hP => ?_)⟩
    · obtain ⟨sG, OM⟩ := hP
      obtain ⟨T, r, rfl, hr2, fT⟩ := cR.get hx
      have li := (List.getElem?_eq_some_iff.mp hr2).1
      have smr := smr0 r (List.mem_of_getElem? hr2)
      have eCG := sG _ _ eC6
      refine ⟨rfl, ?_⟩
      refine ⟨_, rfl, D1, rfl, ⟨_, SqL.of eCG⟩, fun D4 hD4 => lc_list (K := K) (a := D1) (xs := vC) (fun j Y => Same G Y ∧ FrL Y D4 (((turnR ts (widR ts)).take j).map fun s => dotR r s)) ⟨same_new hD4, [], upd_same, by rw [List.take_zero]; exact .nil⟩ (fun j Y _ hP => SqL.of (hP.1 _ _ eCG)) (fun j x Y hj hQ => ?_) (fun Y hQ => ?_)⟩
      · obtain ⟨sY, vs, hv, fr⟩ := hQ
        obtain ⟨U, y, rfl, hy, fU⟩ := cC6.get hj
        have lj := (List.getElem?_eq_some_iff.mp hy).1
        have smy := smc y (List.mem_of_getElem? hy)
        have lv := FrsAt.len fr
        rw [List.length_map, List.length_take] at lv
        refine ⟨rfl, _, rfl, _, rfl, T, U, r, y, rfl, (fT.same sG).same sY, (fU.same sG).same sY, smr, smy, fun t G2 ht st f1 => ?_⟩
        have nt : t ≠ D4 := fun e => by
          rw [e, hv] at ht
          cases ht
        refine ⟨vs, st _ _ hv, small1000 (by omega), fun c o e => ?_, vs ++ [.ref t], upd_same, ?_⟩
        · rw [upd_ne (ne_of_none e hD4)]
          exact st _ _ (sY _ _ e)
        · rw [show (turnR ts (widR ts)).take (j + 1) = (turnR ts (widR ts)).take j ++ [y] by rw [List.take_succ, hy]; rfl, List.map_append]
          refine FrsAt.app (PrsAt.but (PrsAt.same fr st) SameBut.upd (st _ _ hv)) (FrsAt.one ?_)
          show (upd G2 D4 _) t = _
          rw [upd_ne nt]
          exact f1
      · obtain ⟨sY, fr⟩ := hQ
        rw [List.take_of_length_le (by omega)] at fr
        obtain ⟨us9, e9, l9, om9⟩ := OM.add (S6.trans sG) sY hD4 fr.k
        unfold prodM at l9
        rw [List.length_map, List.length_take] at l9
        refine ⟨us9, e9, small1000 (by omega), fun c o e => ?_, ?_⟩
        · rw [upd_ne (ne_of_none e hD)]
          exact sY _ _ (sG _ _ e)
        · unfold prodM at om9 ⊢
          rw [show ss.take (i + 1) = ss.take i ++ [r] by rw [List.take_succ, hr2]; rfl, List.map_append]
          exact om9
    · obtain ⟨sG, OM⟩ := hP
      rw [List.take_of_length_le (by omega)] at OM
      exact k D G (S6.free hD) (S6.trans sG) OM
theorem sc_led : FnScope ["matrix", "xs", "right", "row"] ["matrix", "xs"] (defScope s_led) := ⟨rfl, rfl, rfl, by decide +kernel, rfl, by decide +kernel, by decide +kernel⟩
theorem ok_led {f : Addr} {fd : FuncData} (F : Fun K "led" "led" s_led f fd) (z : Zs mg) (c_check_matrix : Cal P w K mg base 6 "check_matrix" ["thing"] spChkM) (c_check_list : Cal P w K mg base 5 "check_list" ["thing", "many"] spChkL) (c_shape_of : Cal P w K mg base 1 "shape_of" ["matrix"] spShape) (c_cleared : Cal P w K mg base 3 "cleared" ["pairs"] spCleared) (c_met : Cal P w K mg base 3 "met" ["row", "column"] spMet) : FnOk P w K mg base CX0 7 f fd ["matrix", "xs"] spLed := by
  refine F.ok sc_led (fun vs H Q E h => ?_) (fun cdv A outer s H vs Q E hr h => ?_)
  · obtain ⟨a, c, ss, xs, rfl, _⟩ := h
    rfl
  · obtain ⟨a, c, ss, xs, rfl, ⟨ws, ha, hs⟩, hx, rs, wd, b1, b2, k⟩ := h
    refine ⟨_, (pss_cons (ps_expr (pe_cal c_check_matrix hr (pa_cons (pv 0) pa_nil)))
      (pss_cons (ps_expr (pe_cal c_check_list hr (pa_cons (pv 1) (pa_cons (pe_ix ix_tup (pe_cal c_shape_of hr (pa_cons (pv 0) pa_nil)) pe_int (fun _ _ => rfl)) pa_nil))))
      (pss_cons (ps_set (i := 2) sc_led.nd rfl (.inr rfl) (pe_cal c_cleared hr (pa_cons (pv 1) pa_nil)))
      (pss_one (ps_ret (pe_lc (own := [("row", 3)]) (g := gName 3) (tt := tYes) (te := (tCall spMet [] E0 (tCons (tCall spCleared [] E0 (tCons (tVar 3) tNil)) (tCons (tVar 2) tNil)))) (by rfl) sc_led.nd (pi_list (pv 0)) (blkOk_by (own := [("row", 3)]) (N := ["matrix", "xs", "right", "row"]) (sc := defScope s_led) (by decide +kernel)) (fun _ _ _ _ _ => by exact (pg_name (i := 3) sc_led.nd rfl (.inl rfl))) (fun _ _ _ _ _ => by exact pts_nil) (fun _ _ _ _ _ => by exact (pe_cal c_met hr (pa_cons (pe_cal c_cleared hr (pa_cons (pv 3) pa_nil)) (pa_cons (pv 2) pa_nil)))))))))), ?_⟩
    refine ⟨_, rfl, a, ws, ss, rfl, ha, hs, rs, fun H1 s1 => ?_⟩
    have lw := hs.1
    have n10 := rs.n10
    have w10 := rs.w10
    refine ⟨_, rfl, _, rfl, a, ws, ss, rfl, s1 _ _ ha, hs.same s1, rs, fun p1 h1 => ?_⟩
    have e1 := same_new (o := .tup [.int (ss.length : Nat), .int (widR ss : Nat)]) h1
    have S2 := s1.trans e1
    refine ⟨p1, _, 1, .int (widR ss : Nat), rfl, rfl, SqT.of upd_same, a1, ?_⟩
    refine ⟨c, xs, by rw [wd]; rfl, hx.same S2, by omega, fun H3 s3 => ?_⟩
    have S3 := S2.trans s3
    obtain ⟨xv, hc, lx, fx⟩ := (hx.same S3).len
    have smx : SmL xs := ⟨by omega, b2⟩
    refine ⟨_, rfl, c, xv, xs.map pr, prodD xs, rfl, hc, fx, smx.btm.1, by rw [List.length_map]; omega, fun U m H4 hm0 hU0 s4 hU hm => ?_⟩
    have S4 := S3.trans s4
    have cU : ClrAt H4 U xs := ⟨m, hU, hm⟩
    have ha4 := S4 _ _ ha
    refine ⟨_, rfl, a, rfl, ⟨_, SqL.of ha4⟩, fun D hD => lc_list (K := K) (a := a) (xs := ws) (fun i G => Same H4 G ∧ FrL G D ((ss.take i).map fun r => dotR r xs)) ⟨same_new hD, [], upd_same, by rw [List.take_zero]; exact .nil⟩ (fun i G _ hP => SqL.of (hP.1 _ _ ha4)) (fun i x G hx9 hP => ?_) (fun G hP => ?_)⟩
    · obtain ⟨sG, vs, hv, fr⟩ := hP
      obtain ⟨b, r, rfl, hr2, fb⟩ := hs.get hx9
      have li := (List.getElem?_eq_some_iff.mp hr2).1
      have mr := List.mem_of_getElem? hr2
      have smr : SmL r := ⟨(rs.row mr).2.2, b1 r mr⟩
      have SG := S4.trans sG
      obtain ⟨rv, hb, lb, fv⟩ := (fb.same SG).len
      have lv := FrsAt.len fr
      rw [List.length_map, List.length_take] at lv
      refine ⟨rfl, _, rfl, b, rv, r.map pr, prodD r, rfl, hb, fv, smr.btm.1, by rw [List.length_map]; have := smr.1; omega, fun T l G2 hl0 hT0 s2 hT hl => ?_⟩
      refine ⟨_, rfl, T, U, r, xs, rfl, ⟨l, hT, hl⟩, (cU.same sG).same s2, smr, smx, fun t G3 ht st f1 => ?_⟩
      have hv3 := st _ _ (s2 _ _ hv)
      have nt : t ≠ D := fun e => by
        rw [e, s2 _ _ hv] at ht
        cases ht
      refine ⟨vs, hv3, small1000 (by omega), fun c o e => ?_, vs ++ [.ref t], upd_same, ?_⟩
      · rw [upd_ne (ne_of_none e hD)]
        exact st _ _ (s2 _ _ (sG _ _ e))
      · rw [show ss.take (i + 1) = ss.take i ++ [r] by rw [List.take_succ, hr2]; rfl, List.map_append]
        refine FrsAt.app (PrsAt.but (PrsAt.same (PrsAt.same fr s2) st) SameBut.upd hv3) (FrsAt.one ?_)
        show (upd G3 D _) t = _
        rw [upd_ne nt]
        exact f1
    · obtain ⟨sG, fr⟩ := hP
      rw [List.take_of_length_le (by omega)] at fr
      exact k D G (S4.free hD) (S4.trans sG) fr
end
end E1

namespace E1
open PySem PySem.Spec PyProof.Rows L2
def SM (D : Int) (M : Nat) (q : Rat) : Prop := Sc D (M * D.natAbs) q
theorem SM.zero {D : Int} {M : Nat} : SM D M 0 := Sc.zero
theorem SM.mono {D : Int} {M N : Nat} {q : Rat} (h : SM D M q) (l : M ≤ N) : SM D N q := Sc.mono h (Nat.mul_le_mul_right _ l)
theorem SM.add {D : Int} {M N : Nat} {q r : Rat} (h : SM D M q) (g : SM D N r) : SM D (M + N) (q + r) := Sc.mono (Sc.add h g) (by rw [Nat.add_mul]; exact Nat.le_refl _)
theorem SM.mul {D E : Int} {M N : Nat} {q r : Rat} (h : SM D M q) (g : SM E N r) : SM (D * E) (M * N) (q * r) := Sc.mono (Sc.mul h g) (by rw [Int.natAbs_mul, Nat.mul_mul_mul_comm]; exact Nat.le_refl _)
theorem SM.grow {D : Int} {M : Nat} {q : Rat} (h : SM D M q) (k : Int) : SM (D * k) M q := Sc.mono (Sc.scale (k := k) h) (by rw [Int.natAbs_mul, Nat.mul_assoc]; exact Nat.le_refl _)
theorem SM.val {D : Int} {M : Nat} {q : Rat} (h : SM D M q) (hD : D ≠ 0) : q.num.natAbs ≤ M * q.den := by
  obtain ⟨n, e, b⟩ := Sc.cross h
  have e2 := congrArg Int.natAbs e
  rw [Int.natAbs_mul, Int.natAbs_mul, Int.natAbs_natCast] at e2
  have := Nat.mul_le_mul_right q.den b
  have d0 : 0 < D.natAbs := Int.natAbs_pos.mpr hD
  refine Nat.le_of_mul_le_mul_right ?_ d0
  rw [e2, Nat.mul_right_comm]
  exact this
theorem SM.neg {D : Int} {M : Nat} {q : Rat} (h : SM D M q) : SM D M (-q) := by
  obtain ⟨n, e, b⟩ := h
  refine ⟨-n, ?_, by rw [Int.natAbs_neg]; exact b⟩
  push_cast
  grind
theorem sg_sm {D : Int} {M : Nat} {f : Nat → Rat} : ∀ n, (∀ i, i < n → SM D M (f i)) → SM D (n * M) (sg f n)
  | 0, _ => .zero
  | n + 1, h => by
    have := (sg_sm n fun i hi => h i (by omega)).add (h n (by omega))
    rw [← Nat.succ_mul] at this
    exact this
theorem sum_sm {D : Int} {M : Nat} : ∀ qs : List Rat, (∀ q ∈ qs, SM D M q) → SM D (qs.length * M) (sumR qs)
  | [], _ => .zero
  | q :: qs, h => by
    have := (h q List.mem_cons_self).add (sum_sm qs fun x hx => h x (List.mem_cons_of_mem _ hx))
    rw [List.length_cons, Nat.succ_mul, Nat.add_comm]
    exact this
theorem Sc.bits {D : Int} {B n : Nat} {q : Rat} (h : Sc D B q) (hD : D ≠ 0) (h1 : D.natAbs < 2 ^ n) (h2 : B < 2 ^ n) : q.num.natAbs < 2 ^ n ∧ ((q.den : Int)).natAbs < 2 ^ n := by
  have d : (q.den : Int).natAbs ∣ D.natAbs := Int.natAbs_dvd_natAbs.mpr h.den
  exact ⟨Nat.lt_of_le_of_lt (h.num hD) h2, Nat.lt_of_le_of_lt (Nat.le_of_dvd (by omega) d) h1⟩
/-- what a step of it makes -/
theorem lowTP {t b : Int} (hb : 0 < b) : t / gI t b = lowT t b ∧ b / gI t b = lowB t b := by
  unfold lowT lowB
  rw [if_neg (by omega), if_neg (by omega)]
  exact ⟨rfl, rfl⟩
def spLowP : Sp := fun vs H Q _ => ∃ t b : Int, vs = [.int t, .int b] ∧ 0 < b ∧ b.natAbs < 2 ^ 8800 ∧ ∀ p, H p = none → Q (.ref p) (upd H p (.tup [.int (lowT t b), .int (lowB t b)]))
def spOne : Sp := fun vs H Q _ => ∃ (w a : Addr) (c : Int) (us : List V), vs = [.ref w, .ref a] ∧ WellAt H w c ∧ c ≤ 100000000 ∧ a ≠ w ∧ H a = some (.lst us) ∧ 0 < us.length ∧ us.length ≤ 1000 ∧ ∀ v ∈ us, ∀ H', SameBut w H H' → (∀ b, H b = none → H' b = none) → WellAt H' w (c + 1) → Q v H'
theorem WellAt.ne {H : Hp} {a p : Addr} {c : Int} (h : WellAt H a c) (n : H p = none) : p ≠ a := fun e => by
  obtain ⟨_, _, _, z, _⟩ := h
  rw [← e, n] at z
  cases z
theorem but_free {H H' : Hp} {w p : Addr} (s : SameBut w H H') (h : H' p = none) (n : p ≠ w) : H p = none := by
  cases e : H p with
  | none => rfl
  | some o =>
    rw [s _ _ n e] at h
    cases h
theorem PrsAt.well {H H' : Hp} {w : Addr} {c : Int} {vs : List V} {ps : List (Int × Int)} (h : PrsAt H vs ps) (s : SameBut w H H') (hw : WellAt H w c) : PrsAt H' vs ps := by
  obtain ⟨_, _, _, e, _⟩ := hw
  exact h.but s e
theorem Fr.well {H H' : Hp} {w p : Addr} {c : Int} {q : Rat} (h : Fr H p q) (s : SameBut w H H') (hw : WellAt H w c) : Fr H' p q := by
  obtain ⟨_, _, _, e, _⟩ := hw
  exact s _ _ (ne_of h e (fun z => nomatch z)) h
theorem plus_div (q : Rat) {n o : Int} (ho : 0 < o) : Rat.divInt (q.num * o + n * q.den) (q.den * o) = q + Rat.divInt n o := by
  apply div_is (Int.mul_ne_zero (den_ne q) (by omega))
  have a := q_eq q
  have b := div_q (t := n) (b := o) (by omega)
  push_cast at *
  grind
theorem FrL.well {H H' : Hp} {w a : Addr} {c : Int} {qs : List Rat} (h : FrL H a qs) (s : SameBut w H H') (hw : WellAt H w c) (n : a ≠ w) : FrL H' a qs := by
  obtain ⟨vs, e, r⟩ := h
  exact ⟨vs, s _ _ n e, PrsAt.well r s hw⟩
theorem FrL.app {H : Hp} {a b p : Addr} {xs ys : List Rat} {vs ws : List V} (h : H a = some (.lst vs)) (hv : FrsAt H vs xs) (hw : FrsAt H ws ys) (hp : H p = none) : FrL (upd H p (.lst (vs ++ ws))) p (xs ++ ys) := ⟨_, upd_same, PrsAt.same (FrsAt.app hv hw) (same_new hp)⟩

def Pl (kd : Int) (q : Rat) : Prop := (kd = 0 → SM 12 3 q) ∧ (kd ≠ 0 → q.num.natAbs ≤ 1000000000 ∧ q.den ≤ 1000000000)
def spPlace : Sp := fun vs H Q _ => ∃ (w : Addr) (c kd : Int), vs = [.ref w, .int kd] ∧ WellAt H w c ∧ c ≤ 10000000 ∧ ∀ p q H', H p = none → SameBut w H H' → WellAt H' w (c + 2) → Fr H' p q → Pl kd q → Q (.ref p) H'
theorem pl_small {t b : Int} (ht : t.natAbs ≤ 3) (hb : 1 ≤ b ∧ b ≤ 4) : SM 12 3 (Rat.divInt t b) := by
  have d := div_q (t := t) (b := b) (by omega)
  have hd : b ∣ 12 := by
    have : b = 1 ∨ b = 2 ∨ b = 3 ∨ b = 4 := by omega
    rcases this with rfl | rfl | rfl | rfl <;> decide
  obtain ⟨k, hk⟩ := hd
  have hk' : ((12 : Int) : Rat) = (b : Rat) * (k : Rat) := by
    rw [hk]
    push_cast
    rfl
  refine ⟨t * k, ?_, ?_⟩
  · rw [hk']
    push_cast at *
    grind
  · have kl : k.natAbs ≤ 12 := by
      have e : (12 : Int).natAbs = b.natAbs * k.natAbs := by rw [hk, Int.natAbs_mul]
      have : k.natAbs ≤ b.natAbs * k.natAbs := Nat.le_mul_of_pos_left _ (by omega)
      omega
    rw [Int.natAbs_mul]
    exact Nat.mul_le_mul ht kl
theorem pl_div {t b : Int} (hb : 0 < b) (h1 : b ≤ 1000000000) (h2 : t.natAbs ≤ 1000000000) : (Rat.divInt t b).num.natAbs ≤ 1000000000 ∧ (Rat.divInt t b).den ≤ 1000000000 := by
  have s : Sc b t.natAbs (Rat.divInt t b) := ⟨t, div_q (by omega), Nat.le_refl _⟩
  have d := Nat.le_of_dvd (by omega) (Int.natAbs_dvd_natAbs.mpr s.den)
  have n := s.num (by omega)
  exact ⟨by omega, by omega⟩
/-- the sum of the products, place by place -/
def pairsL : List Rat → List Rat → List (Int × Int)
  | x :: xs, y :: ys => (x.num * y.num, (x.den * y.den : Int)) :: pairsL xs ys
  | _, _ => []
theorem pairs_take : ∀ (xs ys : List Rat) (i : Nat) (x y : Rat), xs[i]? = some x → ys[i]? = some y → pairsL (xs.take (i + 1)) (ys.take (i + 1)) = pairsL (xs.take i) (ys.take i) ++ [(x.num * y.num, (x.den * y.den : Int))]
  | a :: xs, b :: ys, 0, x, y, h1, h2 => by
    cases h1
    cases h2
    rfl
  | a :: xs, b :: ys, i + 1, x, y, h1, h2 => by
    show (a.num * b.num, (a.den * b.den : Int)) :: pairsL (xs.take (i + 1)) (ys.take (i + 1)) = (a.num * b.num, (a.den * b.den : Int)) :: (pairsL (xs.take i) (ys.take i) ++ _)
    rw [pairs_take xs ys i x y h1 h2]
  | [], _, _, _, _, h1, _ => by cases h1
  | _ :: _, [], _, _, _, _, h2 => by cases h2
theorem pairs_mem : ∀ {xs ys : List Rat} {p : Int × Int}, p ∈ pairsL xs ys → ∃ x ∈ xs, ∃ y ∈ ys, p = (x.num * y.num, (x.den * y.den : Int))
  | [], ys, p, h => by cases ys <;> cases h
  | x :: xs, [], p, h => by cases h
  | x :: xs, y :: ys, p, h => by
    rcases List.mem_cons.mp h with h | h
    · exact ⟨x, List.mem_cons_self, y, List.mem_cons_self, h⟩
    · obtain ⟨a, ha, b, hb, e⟩ := pairs_mem h
      exact ⟨a, List.mem_cons_of_mem _ ha, b, List.mem_cons_of_mem _ hb, e⟩
theorem pairs_sum : ∀ (xs ys : List Rat), sumR ((pairsL xs ys).map fun p => Rat.divInt p.1 p.2) = dotR xs ys
  | [], ys => by cases ys <;> rfl
  | x :: xs, [] => rfl
  | x :: xs, y :: ys => by
    show Rat.divInt (x.num * y.num) (x.den * y.den : Int) + sumR ((pairsL xs ys).map fun p => Rat.divInt p.1 p.2) = x * y + dotR xs ys
    rw [pairs_sum xs ys, times_q]

def spSumQ : Sp := fun vs H Q _ => ∃ (a : Addr) (ws : List V) (ps : List (Int × Int)) (p1 p2 : Nat), vs = [.ref a] ∧ H a = some (.lst ws) ∧ PrsAt H ws ps ∧ ps.length ≤ 100 ∧ (0 < p1 ∧ 0 < p2 ∧ p1 + p2 ≤ 8700) ∧ (∀ p ∈ ps, 0 < p.2 ∧ p.2.natAbs < 2 ^ p1 ∧ p.1.natAbs < 2 ^ p1) ∧
  (∀ k, k ≤ ps.length → (sumR ((ps.take k).map fun p => Rat.divInt p.1 p.2)).num.natAbs < 2 ^ p2 ∧ (sumR ((ps.take k).map fun p => Rat.divInt p.1 p.2)).den < 2 ^ p2) ∧
  ∀ p H', H p = none → Same H H' → Fr H' p (sumR (ps.map fun p => Rat.divInt p.1 p.2)) → Q (.ref p) H'
/-- sizes of a fraction -/
def Bq (n : Nat) (q : Rat) : Prop := q.num.natAbs < 2 ^ n ∧ q.den < 2 ^ n
theorem Bq.mono {n m : Nat} {q : Rat} (h : Bq n q) (l : n ≤ m) : Bq m q := ⟨Nat.lt_of_lt_of_le h.1 (Nat.pow_le_pow_right (by decide) l), Nat.lt_of_lt_of_le h.2 (Nat.pow_le_pow_right (by decide) l)⟩
/-- what a sum of products asks -/
structure DotOk (xs ys : List Rat) (p1 p2 : Nat) : Prop where
  len : xs.length = ys.length
  l10 : ys.length ≤ 10
  z1 : 0 < p1
  z2 : 0 < p2
  bit : p1 + p2 ≤ 8700
  x : ∀ q ∈ xs, Bq 4400 q
  y : ∀ q ∈ ys, Bq 4400 q
  each : ∀ (k : Nat) (a b : Rat), xs[k]? = some a → ys[k]? = some b → (a.num * b.num).natAbs < 2 ^ p1 ∧ a.den * b.den < 2 ^ p1
  part : ∀ k, k ≤ xs.length → Bq p2 (dotR (xs.take k) (ys.take k))
def spLDot (K : PySem.W.Frag) : Sp := fun vs H Q _ => ∃ (a c : Addr) (xs ys : List Rat) (p1 p2 : Nat), vs = [.ref a, .ref c] ∧ FrLK K H a xs ∧ FrLK K H c ys ∧ DotOk xs ys p1 p2 ∧ ∀ p H', H p = none → Same H H' → Fr H' p (dotR xs ys) → Q (.ref p) H'
theorem pairs_cut : ∀ (xs ys : List Rat) (k : Nat), (pairsL xs ys).take k = pairsL (xs.take k) (ys.take k)
  | [], ys, k => by cases ys <;> cases k <;> rfl
  | x :: xs, [], k => by cases k <;> rfl
  | x :: xs, y :: ys, 0 => rfl
  | x :: xs, y :: ys, k + 1 => congrArg _ (pairs_cut xs ys k)
theorem pairs_at : ∀ (xs ys : List Rat) (p : Int × Int), p ∈ pairsL xs ys → ∃ (k : Nat) (a b : Rat), xs[k]? = some a ∧ ys[k]? = some b ∧ p = (a.num * b.num, (a.den * b.den : Int))
  | [], ys, p, h => by cases ys <;> cases h
  | x :: xs, [], p, h => by cases h
  | x :: xs, y :: ys, p, h => by
    rcases List.mem_cons.mp h with h | h
    · exact ⟨0, x, y, rfl, rfl, h⟩
    · obtain ⟨k, a, b, h1, h2, e⟩ := pairs_at xs ys p h
      exact ⟨k + 1, a, b, h1, h2, e⟩

def spGreat : Sp := fun vs H Q _ => ∃ (w : Addr) (c : Int), vs = [.ref w] ∧ WellAt H w c ∧ c ≤ 10000000 ∧ ∀ (n : Int) (H' : Hp), 0 ≤ n → n < 2 ^ 134 → SameBut w H H' → (∀ b, H b = none → H' b = none) → WellAt H' w (c + 3) → Q (.int n) H'
theorem sm_div {t b : Int} (hb : 0 < b) (h1 : b < 2 ^ 140) (h2 : t.natAbs < 2 ^ 140) : Sm (Rat.divInt t b) := by
  have s : Sc b t.natAbs (Rat.divInt t b) := ⟨t, div_q (by omega), Nat.le_refl _⟩
  have d := Nat.le_of_dvd (by omega) (Int.natAbs_dvd_natAbs.mpr s.den)
  have n := s.num (by omega)
  have p : (2 : Nat) ^ 140 ≤ 2 ^ 150 := Nat.pow_le_pow_right (by decide) (by decide)
  have e : ((2 : Int) ^ 140).natAbs = 2 ^ 140 := by decide
  have b2 : b.natAbs < 2 ^ 140 := by omega
  rw [Int.natAbs_natCast] at d
  exact ⟨Nat.lt_of_le_of_lt n (Nat.lt_of_lt_of_le h2 p), Nat.lt_of_le_of_lt d (Nat.lt_of_lt_of_le b2 p)⟩
theorem sm_zero : Sm 0 := ⟨by decide, by decide⟩
theorem sm_one' : Sm 1 := ⟨by decide, by decide⟩
def spPlc : Sp := fun vs H Q _ => ∃ (w : Addr) (c kd : Int), vs = [.ref w, .int kd] ∧ WellAt H w c ∧ c ≤ 1000000 ∧ ∀ p q H', H p = none → SameBut w H H' → WellAt H' w (c + 8) → Fr H' p q → Sm q → Q (.ref p) H'
section
variable {P : Program} {w : World} {K : PySem.W.Frag} {mg : Str → Option Value} {base : Heap}
theorem sc__law_cell_at : FnScope ["_law_script", "_law_k"] ["_law_script", "_law_k"] (defScope s__law_cell_at) := ⟨rfl, rfl, rfl, by decide +kernel, rfl, by decide +kernel, by decide +kernel⟩
theorem sc__law_well : FnScope ["_law_cell"] ["_law_cell"] (defScope s__law_well) := ⟨rfl, rfl, rfl, by decide +kernel, rfl, by decide +kernel, by decide +kernel⟩
theorem sc__law_draw : FnScope ["_law_well_here", "_law_many", "_law_digit", "_law_number"] ["_law_well_here", "_law_many"] (defScope s__law_draw) := ⟨rfl, rfl, rfl, by decide +kernel, rfl, by decide +kernel, by decide +kernel⟩
theorem ok_cell {f : Addr} {fd : FuncData} {k : Nat} (F : Fun K "_law_cell_at" "_law_cell_at" s__law_cell_at f fd) (zl : mg "len" = none) : FnOk P w K mg base CX0 (k + 1) f fd ["_law_script", "_law_k"] (spCell K) := by
  refine F.ok sc__law_cell_at (fun vs H Q E h => ?_) (fun cdv A outer s H vs Q E hr h => ?_)
  · obtain ⟨a, ns, k, rfl, _⟩ := h
    rfl
  · obtain ⟨a, ns, k, rfl, hS, q⟩ := h
    refine ⟨_, (pss_cons (ps_if (pt_cmpR op_lt (pv 1) (pe_callB call_len_seq (by rfl) zl PySem.boot_len (pa_cons (pv 0) pa_nil)) (nomark _)) (pss_one (ps_ret (pe_ix ix_list (pv 0) (pv 1) (fun _ _ => rfl)))) pss_nil)
      (pss_one (ps_ret pe_int))), ?_⟩
    refine ⟨_, rfl, _, rfl, a, _, rfl, .inl hS, _, _, rfl, rfl, _, rfl, ite2 (fun c => ?_) (fun c => ?_)⟩
    · have hk : k < ns.length := by
        have := toB c
        rw [List.length_map] at this
        omega
      refine ⟨_, rfl, _, rfl, a, _, k, .int (ns.getD k 0), rfl, rfl, hS, atI_nat ?_, q⟩
      rw [List.getElem?_map, List.getElem?_eq_getElem hk, List.getD_eq_getElem?_getD, List.getElem?_eq_getElem hk]
      rfl
    · have hk : ¬ k < ns.length := fun z => by
        have := toNB c
        rw [List.length_map] at this
        omega
      have e : ns.getD k 0 = 0 := by
        rw [List.getD_eq_getElem?_getD, List.getElem?_eq_none (by omega)]
        rfl
      rw [e] at q
      exact q
theorem ok_well {f : Addr} {fd : FuncData} {k : Nat} (F : Fun K "_law_well" "_law_well" s__law_well f fd) (zi : mg "int" = none) : FnOk P w K mg base CX0 (k + 1) f fd ["_law_cell"] spWell := by
  refine F.ok sc__law_well (fun vs H Q E h => ?_) (fun cdv A outer s H vs Q E hr h => ?_)
  · obtain ⟨c, rfl, _⟩ := h
    rfl
  · obtain ⟨c, rfl, q⟩ := h
    refine ⟨_, (pss_one (ps_ret (pe_lst (pa_cons (pe_op op_mul (pv 0) (pe_callTy call_int1 (by rfl) zi (by decide +kernel) (pa_cons (pe_cmpR op_ge (pv 0) (pe_op op_pow pe_int pe_int) (nomark _)) pa_nil))) (pa_cons (pe_op op_mod (pv 0) pe_int) (pa_cons pe_int pa_nil)))))), ?_⟩
    refine ⟨_, rfl, _, rfl, _, _, rfl, rfl, ⟨by decide, by decide, by decide⟩, _, _, rfl, rfl, .inr ⟨_, rfl, _, _, rfl, rfl, .inr ?_, ?_⟩⟩
    · split <;> decide
    · refine ⟨_, rfl, _, _, rfl, rfl, (by show (0 : Int) < 2147483647; decide), (by show 3 ≤ sizeLine; decide), fun p hp => ?_⟩
      exact q p hp _ (same_new hp) ⟨_, _, _, upd_same, Int.emod_nonneg _ (by decide), Int.emod_lt_of_pos _ (by decide), Int.le_refl _, Int.le_refl _⟩

theorem ok_draw {f : Addr} {fd : FuncData} {k : Nat} (F : Fun K "_law_draw" "_law_draw" s__law_draw f fd) : FnOk P w K mg base CX0 (k + 1) f fd ["_law_well_here", "_law_many"] spDraw := by
  refine F.ok sc__law_draw (fun vs H Q E h => ?_) (fun cdv A outer s H vs Q E hr h => ?_)
  · obtain ⟨a, c, m, rfl, _⟩ := h
    rfl
  · obtain ⟨a, c, m, rfl, ⟨x, y, z, hw, y0, y1, z0, z1⟩, hc, m0, m1, q⟩ := h
    have fr : ∀ o b, H b = none → (upd H a o) b = none := fun o b hb => by
      rw [upd_ne (fun e => by rw [e, hw] at hb; cases hb)]
      exact hb
    refine ⟨_, (pss_cons (ps_if (pt_cmpR op_gt (pe_ix ix_list (pv 0) pe_int (fun _ _ => rfl)) pe_int (nomark _)) (pss_cons (ps_set (i := 2) sc__law_draw.nd rfl (.inl rfl) (pe_op op_mod (pe_ix ix_list (pv 0) pe_int (fun _ _ => rfl)) (pv 1)))
      (pss_cons (ps_asg (pe_op op_fdivW (pe_ix ix_list (pv 0) pe_int (fun _ _ => rfl)) (pv 1)) (pg_sub (pv 0) pe_int set_list))
      (pss_one (ps_ret (pv 2))))) pss_nil)
      (pss_cons (ps_asg (pe_op op_add (pe_ix ix_list (pv 0) pe_int (fun _ _ => rfl)) pe_int) (pg_sub (pv 0) pe_int set_list))
      (pss_cons (ps_set (i := 3) sc__law_draw.nd rfl (.inl rfl) (pe_op op_mod (pe_op op_pow (pe_op op_add (pe_op op_add (pe_ix ix_list (pv 0) pe_int (fun _ _ => rfl)) (pe_op op_mul pe_int (pe_ix ix_list (pv 0) pe_int (fun _ _ => rfl)))) pe_int) pe_int) pe_int))
      (pss_cons (ps_set (i := 3) sc__law_draw.nd rfl (.inl rfl) (pe_op op_mod (pe_op op_mul (pv 3) (pe_op op_add (pe_op op_fdiv (pv 3) pe_int) pe_int)) pe_int))
      (pss_one (ps_ret (pe_op op_mod (pe_op op_fdiv (pe_op op_mod (pe_op op_mul (pv 3) (pe_op op_add (pe_op op_add (pe_op op_fdiv (pv 3) pe_int) pe_int) (pe_ix ix_list (pv 0) pe_int (fun _ _ => rfl)))) pe_int) pe_int) (pv 1)))))))), ?_⟩
    refine ⟨_, rfl, a, _, 0, .int x, rfl, rfl, SqL.of hw, a0, x, 0, rfl, rfl, _, rfl, ite2 (fun c => ?_) (fun c => ?_)⟩
    · refine ⟨_, rfl, a, _, 0, .int x, rfl, rfl, SqL.of hw, a0, _, rfl, x, m, rfl, rfl, m0, ?_⟩
      refine ⟨_, rfl, a, _, 0, .int x, rfl, rfl, SqL.of hw, a0, _, rfl, x, m, rfl, rfl, wide_div m0 m1 (by decide) (Nat.le_refl _), _, rfl, a, _, 0, 0, rfl, rfl, hw, rfl, ?_⟩
      refine ⟨_, rfl, q _ _ (Int.emod_nonneg _ (by omega)) (Int.emod_lt_of_pos _ m0) SameBut.upd (fr _) ⟨_, _, _, upd_same, y0, y1, z0, by omega⟩⟩
    · refine ⟨_, rfl, a, _, 2, .int z, rfl, rfl, SqL.of hw, a2, z, 1, rfl, rfl, _, rfl, a, _, 2, 2, rfl, rfl, hw, rfl, ?_⟩
      have hw2 : (upd H a (.lst [V.int x, V.int y, V.int (z + 1)])) a = some (.lst [V.int x, V.int y, V.int (z + 1)]) := upd_same
      have n5 : 0 ≤ y + 7919 * (z + 1) + 1 ∧ y + 7919 * (z + 1) + 1 < 18446744073709551616 := by omega
      refine ⟨_, rfl, a, _, 1, .int y, rfl, rfl, SqL.of hw2, a1, _, rfl, a, _, 2, .int (z + 1), rfl, rfl, SqL.of hw2, a2, _, _, rfl, rfl, .inl ⟨by decide, by decide⟩, _, _, rfl, rfl, _, _, rfl, rfl, _, _, rfl, rfl, ⟨by decide, by decide, ?_⟩, _, _, rfl, rfl, (by show (0 : Int) < 2147483629; decide), ?_⟩
      · show (y + 7919 * (z + 1) + 1).natAbs < 18446744073709551616
        omega
      · generalize hn : (y + 7919 * (z + 1) + 1) ^ (3 : Int).toNat % 2147483629 = n
        have n0 : 0 ≤ n := by rw [← hn]; exact Int.emod_nonneg _ (by decide)
        have n1 : n < 2147483629 := by rw [← hn]; exact Int.emod_lt_of_pos _ (by decide)
        refine ⟨_, rfl, _, rfl, _, _, rfl, rfl, ⟨by decide, by decide⟩, _, _, rfl, rfl, _, _, rfl, rfl, .inl ⟨by omega, by omega⟩, _, _, rfl, rfl, (by show (0 : Int) < 2147483587; decide), ?_⟩
        generalize hm : n * (n / 1009 + 69621) % 2147483587 = u
        have u0 : 0 ≤ u := by rw [← hm]; exact Int.emod_nonneg _ (by decide)
        have u1 : u < 2147483587 := by rw [← hm]; exact Int.emod_lt_of_pos _ (by decide)
        refine ⟨_, rfl, _, rfl, _, _, rfl, rfl, ⟨by decide, by decide⟩, _, _, rfl, rfl, _, rfl, a, _, 2, .int (z + 1), rfl, rfl, SqL.of hw2, a2, _, _, rfl, rfl, _, _, rfl, rfl, .inl ⟨by omega, by omega⟩, _, _, rfl, rfl, (by show (0 : Int) < 2147483579; decide), _, _, rfl, rfl, ⟨by decide, by decide⟩, _, rfl, _, _, rfl, rfl, m0, ?_⟩
        exact q _ _ (Int.emod_nonneg _ (by omega)) (Int.emod_lt_of_pos _ m0) SameBut.upd (fr _) ⟨_, _, _, upd_same, y0, y1, by omega, by omega⟩
theorem sc__law_one : FnScope ["_law_well_here", "_law_some"] ["_law_well_here", "_law_some"] (defScope s__law_one) := ⟨rfl, rfl, rfl, by decide +kernel, rfl, by decide +kernel, by decide +kernel⟩
theorem ok__law_one {f : Addr} {fd : FuncData} (F : Fun K "_law_one" "_law_one" s__law_one f fd) (z : Zs mg) (c__law_draw : Cal P w K mg base 1 "_law_draw" ["_law_well_here", "_law_many"] spDraw) : FnOk P w K mg base CX0 2 f fd ["_law_well_here", "_law_some"] spOne := by
  refine F.ok sc__law_one (fun vs H Q E h => ?_) (fun cdv A outer s H vs Q E hr h => ?_)
  · obtain ⟨w1, a, c, us, rfl, _⟩ := h
    rfl
  · obtain ⟨w1, a, c, us, rfl, hw, hc, ne, ha, l0, l1, q⟩ := h
    refine ⟨_, (pss_one (ps_ret (pe_ix ix_list (pv 1) (pe_cal c__law_draw hr (pa_cons (pv 0) (pa_cons (pe_callB call_len_seq (by rfl) z.len PySem.boot_len (pa_cons (pv 1) pa_nil)) pa_nil))) (fun _ _ => rfl)))), ?_⟩
    refine ⟨_, rfl, _, rfl, _, rfl, a, _, rfl, .inl (SqL.of ha), w1, c, _, rfl, hw, by omega, by omega, ?_, fun r H1 r0 r1 d1 f1 w2 => ?_⟩
    · exact Nat.lt_of_le_of_lt (show ((us.length : Int)).natAbs ≤ 1000 by omega) (up (show 1000 < 2 ^ 10 by decide) (by decide))
    · obtain ⟨k, rfl⟩ : ∃ k : Nat, r = k := ⟨r.toNat, by omega⟩
      have hk : k < us.length := by omega
      exact ⟨a, _, _, _, rfl, rfl, SqL.of (d1 _ _ ne ha), atI_nat (List.getElem?_eq_getElem hk), q _ (List.getElem_mem hk) H1 d1 f1 w2⟩
theorem sc__law_low : FnScope ["_law_top", "_law_bottom", "_law_one_here", "_law_other"] ["_law_top", "_law_bottom"] (defScope s__law_low) := ⟨rfl, rfl, rfl, by decide +kernel, rfl, by decide +kernel, by decide +kernel⟩
theorem ok__law_low {f : Addr} {fd : FuncData} {k : Nat} (F : Fun K "_law_low" "_law_low" s__law_low f fd) (z : Zs mg) : FnOk P w K mg base CX0 (k + 1) f fd ["_law_top", "_law_bottom"] spLowP := by
  refine F.ok sc__law_low (fun vs H Q E h => ?_) (fun cdv A outer s H vs Q E hr h => ?_)
  · obtain ⟨t, b, rfl, _⟩ := h
    rfl
  · obtain ⟨t, b, rfl, hb, hl, q⟩ := h
    refine ⟨_, (pss_cons (ps_par (i := 2) (j := 3) (by rfl) sc__law_low.nd rfl rfl (by decide) rfl rfl (pa_cons (pe_callB call_abs (by rfl) z.abs (by decide +kernel) (pa_cons (pv 0) pa_nil)) (pa_cons (pv 1) pa_nil)) (by rfl))
      (pss_cons (ps_while PassesOwn.never (pt_cmpR op_gt (pv 3) pe_int (nomark _)) (pss_one (ps_par (i := 2) (j := 3) (by rfl) sc__law_low.nd rfl rfl (by decide) rfl rfl (pa_cons (pv 3) (pa_cons (pe_op op_mod (pv 2) (pv 3)) pa_nil)) (by rfl))))
      (pss_one (ps_ret (pe_tup (pa_cons (pe_op op_fdivW (pv 0) (pv 2)) (pa_cons (pe_op op_fdivW (pv 1) (pv 2)) pa_nil))))))), ?_⟩
    have g0 := gI_pos (t := t) (b := b) (by omega)
    have g1 : (gI t b).natAbs < 2 ^ 8800 := Nat.lt_of_le_of_lt (gI_le (by omega)) hl
    refine ⟨_, rfl, _, rfl, _, rfl, _, _, rfl, ?_⟩
    dsimp only [gName, tSeq]
    refine while_by (fun σ H' => H' = H ∧ ∃ m n : Nat, σ = [some (.int t), some (.int b), some (.int (m : Int)), some (.int (n : Int))] ∧ Nat.gcd m n = Int.gcd t b)
      (fun σ _ => match σ with | [_, _, _, some (.int r)] => r.toNat | _ => 0) ⟨rfl, t.natAbs, b.natAbs, ?_, rfl⟩ (fun σ H1 hP => ?_) (fun σ H Q Q' m hh => ?_)
    · have e1 : (if t < 0 then -t else t) = (t.natAbs : Int) := by split <;> omega
      have e2 : b = (b.natAbs : Int) := by omega
      show [some (V.int t), some (V.int b), some (V.int (if t < 0 then -t else t)), some (V.int b)] = _
      rw [e1, ← e2]
    · obtain ⟨rfl, m, n, rfl, hg⟩ := hP
      refine ⟨_, rfl, _, _, rfl, rfl, _, rfl, ite2 (fun c => ?_) (fun c => ?_)⟩
      · have hn := toB c
        refine ⟨_, rfl, _, rfl, _, rfl, _, _, rfl, rfl, (by omega), _, _, rfl, ⟨⟨rfl, n, m % n, rfl, ?_⟩, ?_⟩⟩
        · rw [← hg, Nat.gcd_comm n (m % n), ← Nat.gcd_rec n m, Nat.gcd_comm]
        · show ((m : Int) % (n : Int)).toNat < ((n : Int)).toNat
          have := Int.emod_lt_of_pos (m : Int) (show (0 : Int) < n by omega)
          have := Int.emod_nonneg (m : Int) (show (n : Int) ≠ 0 by omega)
          omega
      · have hn := toNB c
        have e0 : n = 0 := by omega
        subst e0
        rw [Nat.gcd_zero_right] at hg
        have e2 : (m : Int) = gI t b := by
          unfold gI
          rw [hg]
        rw [e2]
        refine ⟨_, rfl, _, rfl, _, _, rfl, rfl, wide_div g0 g1 (by decide) (by decide), _, rfl, _, rfl, _, _, rfl, rfl, wide_div g0 g1 (by decide) (by decide), (by show 2 ≤ sizeLine; decide), fun p hp => ?_⟩
        have := q p hp
        rw [← (lowTP hb).1, ← (lowTP hb).2] at this
        exact this
    · obtain ⟨v, e, i, j, e1, e2, kk, ek, hq⟩ := hh
      exact ⟨v, e, i, j, e1, e2, kk, ek, m _ _ hq⟩
theorem sc__law_sum : FnScope ["_law_some", "_law_top", "_law_bottom", "_law_one_here", "_law_other"] ["_law_some"] (defScope s__law_sum) := ⟨rfl, rfl, rfl, by decide +kernel, rfl, by decide +kernel, by decide +kernel⟩
theorem ok__law_sum {f : Addr} {fd : FuncData} (F : Fun K "_law_sum" "_law_sum" s__law_sum f fd) (c__law_low : Cal P w K mg base 1 "_law_low" ["_law_top", "_law_bottom"] spLowP) : FnOk P w K mg base CX0 2 f fd ["_law_some"] spSumQ := by
  refine F.ok sc__law_sum (fun vs H Q E h => ?_) (fun cdv A outer s H vs Q E hr h => ?_)
  · obtain ⟨a, ws, ps, p1, p2, rfl, _⟩ := h
    rfl
  · obtain ⟨a, ws, ps, p1, p2, rfl, ha, hp0, hl, ⟨p10, p20, p12⟩, hps, hpt, q⟩ := h
    refine ⟨_, (pss_cons (ps_asg (pe_tup (pa_cons pe_int (pa_cons pe_int pa_nil))) (pg_tup (by rfl) (pgs_cons (pg_name (i := 1) sc__law_sum.nd rfl (.inl rfl)) (pgs_cons (pg_name (i := 2) sc__law_sum.nd rfl (.inl rfl)) pgs_nil))))
      (pss_cons (ps_for PassesOwn.never rfl (pi_list (pv 0)) (pg_tup (by rfl) (pgs_cons (pg_name (i := 3) sc__law_sum.nd rfl (.inl rfl)) (pgs_cons (pg_name (i := 4) sc__law_sum.nd rfl (.inl rfl)) pgs_nil))) (pss_one (ps_asg (pe_cal c__law_low hr (pa_cons (pe_op op_add (pe_op op_mulW (pv 1) (pv 4)) (pe_op op_mulW (pv 3) (pv 2))) (pa_cons (pe_op op_mulW (pv 2) (pv 4)) pa_nil))) (pg_tup (by rfl) (pgs_cons (pg_name (i := 1) sc__law_sum.nd rfl (.inl rfl)) (pgs_cons (pg_name (i := 2) sc__law_sum.nd rfl (.inl rfl)) pgs_nil))))))
      (pss_one (ps_ret (pe_tup (pa_cons (pv 1) (pa_cons (pv 2) pa_nil))))))), ?_⟩
    have hlen := hp0.len
    refine ⟨(by show 2 ≤ sizeLine; decide), fun p0 hp00 => ⟨p0, _, rfl, SqT.of upd_same, rfl, _, _, rfl, _, _, rfl, rfl, ?_⟩⟩
    have sI := same_new (o := .tup [.int 0, .int 1]) hp00
    refine ⟨_, rfl, a, rfl, ⟨_, SqL.of (sI _ _ ha)⟩, for_list (K := K) (a := a) (xs := ws) (fun i σ H' => Same H H' ∧ ∃ y3 y4 : Option V, σ = [some (.ref a), some (.int (sumR ((ps.take i).map fun p => Rat.divInt p.1 p.2)).num), some (.int ((sumR ((ps.take i).map fun p => Rat.divInt p.1 p.2)).den : Int)), y3, y4]) ⟨sI, none, none, rfl⟩ (fun i σ H' _ hP => SqL.of (hP.1 _ _ ha)) (fun i x σ H' hx hP => ?_) (fun σ H' hP => ?_)⟩
    · obtain ⟨s1, y3, y4, rfl⟩ := hP
      obtain ⟨p, n, o, rfl, hi, hm, hp⟩ := PrL_get hp0 hx
      obtain ⟨o0, od, nl⟩ := hps _ hm
      have o0 : 0 < o := o0
      have od : o.natAbs < 2 ^ p1 := od
      have nl : n.natAbs < 2 ^ p1 := nl
      have li := (List.getElem?_eq_some_iff.mp hi).1
      obtain ⟨b1, b2⟩ := hpt i (by omega)
      have e : sumR ((ps.take (i + 1)).map fun p => Rat.divInt p.1 p.2) = sumR ((ps.take i).map fun p => Rat.divInt p.1 p.2) + Rat.divInt n o := by
        rw [List.take_succ, hi, Option.toList_some, List.map_append, sumR_append]
        show _ + (Rat.divInt n o + 0) = _
        grind
      rw [e]
      have pd := plus_div (sumR ((ps.take i).map fun p => Rat.divInt p.1 p.2)) (n := n) o0
      generalize sumR ((ps.take i).map fun p => Rat.divInt p.1 p.2) = sq at *
      have b3 : ((sq.den : Int)).natAbs < 2 ^ p2 := by rw [Int.natAbs_natCast]; exact b2
      refine ⟨p, [.int n, .int o], rfl, SqT.of (s1 _ _ hp), rfl, _, _, rfl, _, _, rfl, rfl, ?_⟩
      have hne : (sq.den : Int) * o ≠ 0 := Int.mul_ne_zero (den_ne sq) (by omega)
      refine ⟨_, rfl, _, rfl, _, _, rfl, rfl, wide_mul b1 od (by omega) (by omega) (by omega), _, rfl, _, rfl, _, _, rfl, rfl, wide_mul nl b3 (by omega) (by omega) (by omega), _, _, rfl, rfl, _, rfl, _, rfl, _, _, rfl, rfl, wide_mul b3 od (by omega) (by omega) (by omega), _, _, rfl, Int.mul_pos (den_ge sq) o0, ?_, fun p2 hp2 => ?_⟩
      · show ((sq.den : Int) * o).natAbs < 2 ^ 8800
        rw [Int.natAbs_mul]
        have := Nat.mul_lt_mul'' b3 od
        rw [← Nat.pow_add] at this
        exact up this (by omega)
      · rw [lowT_num hne, lowB_den hne, pd]
        exact ⟨p2, _, rfl, SqT.of upd_same, rfl, _, _, rfl, _, _, rfl, rfl, s1.trans (same_new hp2), _, _, rfl⟩
    · obtain ⟨s1, y3, y4, rfl⟩ := hP
      rw [hlen, List.take_length]
      refine ⟨_, rfl, _, rfl, (by show 2 ≤ sizeLine; decide), fun p hp => ?_⟩
      exact q p _ (s1.free hp) (s1.trans (same_new hp)) upd_same
theorem sc__law_dot : FnScope ["_law_one_here", "_law_other", "_law_a", "_law_b"] ["_law_one_here", "_law_other"] (defScope s__law_dot) := ⟨rfl, rfl, rfl, by decide +kernel, rfl, by decide +kernel, by decide +kernel⟩
theorem ok__law_dot {f : Addr} {fd : FuncData} (F : Fun K "_law_dot" "_law_dot" s__law_dot f fd) (z : Zs mg) (c__law_sum : Cal P w K mg base 2 "_law_sum" ["_law_some"] spSumQ) : FnOk P w K mg base CX0 3 f fd ["_law_one_here", "_law_other"] (spLDot K) := by
  refine F.ok sc__law_dot (fun vs H Q E h => ?_) (fun cdv A outer s H vs Q E hr h => ?_)
  · obtain ⟨a, c, xs, ys, p1, p2, rfl, _⟩ := h
    rfl
  · obtain ⟨a, c, xs, ys, p1, p2, rfl, ⟨vs, ha, hx⟩, ⟨us, hc, hy⟩, ok, k⟩ := h
    refine ⟨_, (pss_one (ps_ret (pe_cal c__law_sum hr (pa_cons (pe_lc (own := [("_law_a", 2), ("_law_b", 3)]) (g := gTup K 2 (gCons (gName 2) (gCons (gName 3) gNil))) (tt := tYes) (te := (tTup (tCons (tOp (rI CMulW fun i j => V.int (i * j)) (tOp (rIxT K) (tVar 2) (tC (.int 0))) (tOp (rIxT K) (tVar 3) (tC (.int 0)))) (tCons (tOp (rI CMulW fun i j => V.int (i * j)) (tOp (rIxT K) (tVar 2) (tC (.int 1))) (tOp (rIxT K) (tVar 3) (tC (.int 1)))) tNil)))) (by rfl) sc__law_dot.nd (RZ.pi_zipA (by rfl) z.zip (pa_cons (pv 0) (pa_cons (pv 1) pa_nil))) (blkOk_by (own := [("_law_a", 2), ("_law_b", 3)]) (N := ["_law_one_here", "_law_other", "_law_a", "_law_b"]) (sc := defScope s__law_dot) (by decide +kernel)) (fun _ _ _ _ _ => by exact (pg_tup (by rfl) (pgs_cons (pg_name (i := 2) sc__law_dot.nd rfl (.inl rfl)) (pgs_cons (pg_name (i := 3) sc__law_dot.nd rfl (.inl rfl)) pgs_nil)))) (fun _ _ _ _ _ => by exact pts_nil) (fun _ _ _ _ _ => by exact (pe_tup (pa_cons (pe_op op_mulW (pe_ix ix_tup (pv 2) pe_int (fun _ _ => rfl)) (pe_ix ix_tup (pv 3) pe_int (fun _ _ => rfl))) (pa_cons (pe_op op_mulW (pe_ix ix_tup (pv 2) pe_int (fun _ _ => rfl)) (pe_ix ix_tup (pv 3) pe_int (fun _ _ => rfl))) pa_nil))))) pa_nil)))), ?_⟩
    have lx := hx.1
    have ly := hy.1
    have hl := ok.len
    have l10 := ok.l10
    refine ⟨_, rfl, _, rfl, a, c, vs, us, rfl, .inl ⟨SqL.of ha, SqL.of hc, fun l hL => ?_⟩⟩
    refine lc_it (walk_zip (K := K) (a := a) (b := c) (xs := vs) (ys := us) rfl) (fun i H2 => Same H H2 ∧ ∃ ws, H2 l = some (.lst ws) ∧ PrsAt H2 ws (pairsL (xs.take i) (ys.take i)) ∧ ws.length ≤ i) ⟨same_new hL, [], upd_same, .nil, Nat.le_refl _⟩ (fun i H2 _ hP => ⟨SqL.of (hP.1 _ _ ha), SqL.of (hP.1 _ _ hc)⟩) (fun i x H2 H3 hi hP hY => ?_) (fun H2 hP => ?_)
    · obtain ⟨s1, ws, hw, hps, hwl⟩ := hP
      obtain ⟨Tp, u, v, rfl, nT, rfl, e1, e2⟩ := hY
      obtain ⟨p, qx, rfl, hqx, hp⟩ := hx.get e1
      obtain ⟨r, qy, rfl, hqy, hr'⟩ := hy.get e2
      have sN := same_new (o := .tup [.ref p, .ref r]) nT
      have S1 := s1.trans sN
      have hp3 := sqT_same hp S1
      have hr3 := sqT_same hr' S1
      have hw3 := sN _ _ hw
      have ps3 := hps.same sN
      obtain ⟨nx, dx0⟩ := ok.x _ (List.mem_of_getElem? hqx)
      obtain ⟨ny, dy0⟩ := ok.y _ (List.mem_of_getElem? hqy)
      have li : i < min vs.length us.length := hi
      have dx : ((qx.den : Int)).natAbs < 2 ^ 4400 := by rw [Int.natAbs_natCast]; exact dx0
      have dy : ((qy.den : Int)).natAbs < 2 ^ 4400 := by rw [Int.natAbs_natCast]; exact dy0
      refine ⟨Tp, [.ref p, .ref r], rfl, SqT.of upd_same, rfl, _, _, rfl, _, _, rfl, rfl, rfl, ?_⟩
      refine ⟨_, rfl, p, _, 0, .int qx.num, rfl, rfl, hp3, a0, _, rfl, r, _, 0, .int qy.num, rfl, rfl, hr3, a0, _, _, rfl, rfl, wide_mul nx ny (by decide) (by decide) (by decide), _, rfl, p, _, 1, .int qx.den, rfl, rfl, hp3, a1, _, rfl, r, _, 1, .int qy.den, rfl, rfl, hr3, a1, _, _, rfl, rfl, wide_mul dx dy (by decide) (by decide) (by decide), (by show 2 ≤ sizeLine; decide), fun t ht => ?_⟩
      have sT := same_new (o := .tup [.int (qx.num * qy.num), .int (qx.den * qy.den : Int)]) ht
      have nl : t ≠ l := fun e => by
        rw [e, hw3] at ht
        cases ht
      refine ⟨_, sT _ _ hw3, small1000 (by omega), fun b o e => ?_, ws ++ [.ref t], upd_same, ?_, by rw [List.length_append]; show ws.length + 1 ≤ i + 1; omega⟩
      · rw [upd_ne (ne_of_none e hL)]
        exact sT _ _ (S1 _ _ e)
      · rw [pairs_take xs ys i qx qy hqx hqy]
        have A : PrsAt (upd (upd (upd H2 Tp (.tup [.ref p, .ref r])) t (.tup [.int (qx.num * qy.num), .int (qx.den * qy.den : Int)])) l (.lst (ws ++ [.ref t]))) ws (pairsL (xs.take i) (ys.take i)) := (ps3.same sT).but SameBut.upd (sT _ _ hw3)
        refine A.app (.cons ?_ .nil)
        rw [upd_ne nl]
        exact upd_same
    · obtain ⟨s1, ws, hw, hps, hwl⟩ := hP
      rw [show min vs.length us.length = xs.length by omega, List.take_length, show xs.length = ys.length from hl, List.take_length] at hps
      have pl := hps.len
      refine ⟨l, ws, _, p1, p2, rfl, hw, hps, by omega, ⟨ok.z1, ok.z2, ok.bit⟩, fun p hp => ?_, fun j hj => ?_, fun p H3 hp s3 f3 => ?_⟩
      · obtain ⟨i, x, y, hx9, hy9, rfl⟩ := pairs_at xs ys p hp
        obtain ⟨c1, c2⟩ := ok.each i x y hx9 hy9
        refine ⟨Int.mul_pos (den_ge x) (den_ge y), ?_, c1⟩
        show ((x.den : Int) * (y.den : Int)).natAbs < 2 ^ p1
        rw [← Int.natCast_mul, Int.natAbs_natCast]
        exact c2
      · rw [pairs_cut, pairs_sum]
        by_cases c : j ≤ xs.length
        · exact ok.part j c
        · have := ok.part xs.length (Nat.le_refl _)
          rw [List.take_of_length_le (Nat.le_refl _), List.take_of_length_le (by omega)] at this
          rw [List.take_of_length_le (by omega), List.take_of_length_le (by omega)]
          exact this
      · rw [pairs_sum] at f3
        exact k p H3 (s1.free hp) (s1.trans s3) f3
theorem sc__law_great : FnScope ["_law_well_here"] ["_law_well_here"] (defScope s__law_great) := ⟨rfl, rfl, rfl, by decide +kernel, rfl, by decide +kernel, by decide +kernel⟩
theorem ok__law_great {f : Addr} {fd : FuncData} (F : Fun K "_law_great" "_law_great" s__law_great f fd) (c__law_draw : Cal P w K mg base 1 "_law_draw" ["_law_well_here", "_law_many"] spDraw) : FnOk P w K mg base CX0 2 f fd ["_law_well_here"] spGreat := by
  refine F.ok sc__law_great (fun vs H Q E h => ?_) (fun cdv A outer s H vs Q E hr h => ?_)
  · obtain ⟨ww, c, rfl, _⟩ := h
    rfl
  · obtain ⟨ww, c, rfl, hw, hc, q⟩ := h
    refine ⟨_, (pss_one (ps_ret (pe_op op_add (pe_op op_add (pe_op op_mulW (pe_cal c__law_draw hr (pa_cons (pv 0) (pa_cons (pe_op op_pow pe_int pe_int) pa_nil))) (pe_op op_pow pe_int pe_int)) (pe_op op_mulW (pe_cal c__law_draw hr (pa_cons (pv 0) (pa_cons (pe_op op_pow pe_int pe_int) pa_nil))) (pe_op op_pow pe_int pe_int))) (pe_cal c__law_draw hr (pa_cons (pv 0) (pa_cons (pe_op op_pow pe_int pe_int) pa_nil)))))), ?_⟩
    have e9 : (10 : Int) ^ (9 : Int).toNat = 1000000000 := by decide
    have l9 : ∀ {r : Int}, 0 ≤ r → r < (10 : Int) ^ (9 : Int).toNat → r.natAbs < 2 ^ 40 := fun h1 h2 => by rw [e9] at h2; omega
    refine ⟨_, rfl, _, _, rfl, rfl, ⟨by decide, by decide, by decide⟩, ww, c, (10 : Int) ^ (9 : Int).toNat, rfl, hw, by omega, by decide, by decide, fun r1 H1 r10 r11 d1 f1 w1 => ⟨_, _, rfl, rfl, ⟨by decide, by decide, by decide⟩, _, _, rfl, rfl, wide_mul (l9 r10 r11) (show ((10 : Int) ^ (31 : Int).toNat).natAbs < 2 ^ 200 by decide) (by decide) (by decide) (by decide), ?_⟩⟩
    refine ⟨_, rfl, _, _, rfl, rfl, ⟨by decide, by decide, by decide⟩, ww, c + 1, (10 : Int) ^ (9 : Int).toNat, rfl, w1, by omega, by decide, by decide, fun r2 H2 r20 r21 d2 f2 w2 => ⟨_, _, rfl, rfl, ⟨by decide, by decide, by decide⟩, _, _, rfl, rfl, wide_mul (l9 r20 r21) (show ((10 : Int) ^ (16 : Int).toNat).natAbs < 2 ^ 200 by decide) (by decide) (by decide) (by decide), _, _, rfl, rfl, ?_⟩⟩
    refine ⟨_, rfl, _, _, rfl, rfl, ⟨by decide, by decide, by decide⟩, ww, c + 1 + 1, (10 : Int) ^ (9 : Int).toNat, rfl, w2, by omega, by decide, by decide, fun r3 H3 r30 r31 d3 f3 w3 => ⟨_, _, rfl, rfl, ?_⟩⟩
    have e31 : (10 : Int) ^ (31 : Int).toNat = 10000000000000000000000000000000 := by decide
    have e16 : (10 : Int) ^ (16 : Int).toNat = 10000000000000000 := by decide
    rw [e9] at r11 r21 r31
    rw [e31, e16]
    have e134 : (2 : Int) ^ 134 = 21778071482940061661655974875633165533184 := by decide
    exact q _ H3 (by omega) (by omega) (d1.trans (d2.trans d3)) (fun b e => f3 b (f2 b (f1 b e))) (w3.mono (by omega))
theorem sc__law_place : FnScope ["_law_well_here", "_law_kind", "_law_top"] ["_law_well_here", "_law_kind"] (defScope s__law_place) := ⟨rfl, rfl, rfl, by decide +kernel, rfl, by decide +kernel, by decide +kernel⟩
theorem ok__law_place {f : Addr} {fd : FuncData} (F : Fun K "_law_place" "_law_place" s__law_place f fd) (c__law_draw : Cal P w K mg base 1 "_law_draw" ["_law_well_here", "_law_many"] spDraw) (c__law_low : Cal P w K mg base 1 "_law_low" ["_law_top", "_law_bottom"] spLowP) (c__law_one : Cal P w K mg base 2 "_law_one" ["_law_well_here", "_law_some"] spOne) (c__law_great : Cal P w K mg base 2 "_law_great" ["_law_well_here"] spGreat) : FnOk P w K mg base CX0 3 f fd ["_law_well_here", "_law_kind"] spPlc := by
  refine F.ok sc__law_place (fun vs H Q E h => ?_) (fun cdv A outer s H vs Q E hr h => ?_)
  · obtain ⟨ww, c, kd, rfl, _⟩ := h
    rfl
  · obtain ⟨ww, c, kd, rfl, hw, hc, q⟩ := h
    refine ⟨_, (pss_cons (ps_if (pt_cmpR op_eq (pv 1) pe_int (nomark _)) (pss_one (ps_ret (pe_cal c__law_low hr (pa_cons (pe_op op_sub (pe_cal c__law_draw hr (pa_cons (pv 0) (pa_cons pe_int pa_nil))) pe_int) (pa_cons (pe_op op_add pe_int (pe_cal c__law_draw hr (pa_cons (pv 0) (pa_cons pe_int pa_nil)))) pa_nil))))) pss_nil)
      (pss_cons (ps_if (pt_cmpR op_eq (pv 1) pe_int (nomark _)) (pss_one (ps_ret (pe_cal c__law_low hr (pa_cons (pe_op op_add (pe_op op_sub (pe_cal c__law_draw hr (pa_cons (pv 0) (pa_cons (pe_op op_sub (pe_op op_mul pe_int (pe_op op_pow pe_int pe_int)) pe_int) pa_nil))) (pe_op op_pow pe_int pe_int)) pe_int) (pa_cons (pe_op op_add pe_int (pe_cal c__law_draw hr (pa_cons (pv 0) (pa_cons (pe_op op_sub (pe_op op_pow pe_int pe_int) pe_int) pa_nil)))) pa_nil))))) pss_nil)
      (pss_cons (ps_set (i := 2) sc__law_place.nd rfl (.inl rfl) (pe_op op_mulW (pe_cal c__law_great hr (pa_cons (pv 0) pa_nil)) (pe_cal c__law_one hr (pa_cons (pv 0) (pa_cons (pe_lst (pa_cons pe_int (pa_cons (pe_un un_neg pe_int) pa_nil))) pa_nil)))))
      (pss_one (ps_ret (pe_cal c__law_one hr (pa_cons (pv 0) (pa_cons (pe_lst (pa_cons (pe_tup (pa_cons pe_int (pa_cons pe_int pa_nil))) (pa_cons (pe_tup (pa_cons pe_int (pa_cons pe_int pa_nil))) (pa_cons (pe_cal c__law_low hr (pa_cons (pv 2) (pa_cons (pe_op op_add pe_int (pe_cal c__law_great hr (pa_cons (pv 0) pa_nil))) pa_nil))) pa_nil)))) pa_nil)))))))), ?_⟩
    have fin : ∀ (t b : Int) (H2 : Hp) (p : Addr) (d : Int), SameBut ww H H2 → WellAt H2 ww d → d ≤ c + 8 → H2 p = none → 0 < b → Sm (Rat.divInt t b) → Q (.ref p) (upd H2 p (.tup [.int (lowT t b), .int (lowB t b)])) := fun t b H2 p d dd w2 hd hp hb hpl => q p _ _ (but_free dd hp (w2.ne hp)) (dd.trans (SameBut.of (same_new hp))) ((w2.same (same_new hp)).mono hd) (Fr.low (by omega) rfl upd_same) hpl
    have b40 : ∀ {b : Int}, b.natAbs < 2 ^ 40 → b.natAbs < 2 ^ 8800 := fun h => up h (by decide)
    have e140 : (2 : Nat) ^ 140 = 1393796574908163946345982392040522594123776 := by decide
    have e140' : (2 : Int) ^ 140 = 1393796574908163946345982392040522594123776 := by decide
    have e134 : (2 : Int) ^ 134 = 21778071482940061661655974875633165533184 := by decide
    refine ⟨_, rfl, rfl, _, rfl, ite2 (fun ck => ?_) (fun ck => ?_)⟩
    · refine ⟨_, rfl, ww, c, 7, rfl, hw, by omega, by decide, by decide, fun r1 H1 r10 r11 d1 f1 w1 => ⟨_, _, rfl, rfl, _, rfl, ww, c + 1, 4, rfl, w1, by omega, by decide, by decide, fun r2 H2 r20 r21 d2 f2 w2 => ⟨_, _, rfl, rfl, _, _, rfl, by omega, b40 (by omega), fun p hp => ?_⟩⟩⟩
      exact fin _ _ H2 p _ (d1.trans d2) w2 (by omega) hp (by omega) (sm_div (by omega) (by omega) (by omega))
    refine ⟨_, rfl, rfl, _, rfl, ite2 (fun ck2 => ?_) (fun ck2 => ?_)⟩
    · refine ⟨_, rfl, _, _, rfl, rfl, ⟨by decide, by decide, by decide⟩, _, _, rfl, rfl, .inl ⟨by decide, by decide⟩, _, _, rfl, rfl, ww, c, 1999999999, rfl, hw, by omega, by decide, by decide, fun r1 H1 r10 r11 d1 f1 w1 => ⟨_, _, rfl, rfl, ⟨by decide, by decide, by decide⟩, _, _, rfl, rfl, _, _, rfl, rfl, _, rfl, _, _, rfl, rfl, ⟨by decide, by decide, by decide⟩, _, _, rfl, rfl, ww, c + 1, 999999999, rfl, w1, by omega, by decide, by decide, fun r2 H2 r20 r21 d2 f2 w2 => ⟨_, _, rfl, rfl, _, _, rfl, by omega, b40 (by omega), fun p hp => ?_⟩⟩⟩
      have e9 : (10 : Int) ^ (9 : Int).toNat = 1000000000 := by decide
      rw [e9]
      exact fin _ _ H2 p _ (d1.trans d2) w2 (by omega) hp (by omega) (sm_div (by omega) (by omega) (by omega))
    have l134 : ∀ {n : Int}, 0 ≤ n → n < 2 ^ 134 → n.natAbs < 2 ^ 134 := fun h1 h2 => by
      have : (2 : Nat) ^ 134 = 21778071482940061661655974875633165533184 := by decide
      omega
    refine ⟨_, rfl, ww, c, rfl, hw, by omega, fun t1 H1 t10 t11 d1 f1 w1 => ?_⟩
    refine ⟨_, rfl, 1, rfl, (by show 2 ≤ sizeLine; decide), fun l hl => ?_⟩
    have sl := same_new (o := .lst [.int 1, .int (-1)]) hl
    refine ⟨ww, l, c + 3, _, rfl, w1.same sl, by omega, w1.ne hl, upd_same, by show 0 < 2; decide, by show 2 ≤ 1000; decide, fun v hv H2 d2 f2 w2 => ?_⟩
    obtain ⟨sg, rfl, hs⟩ : ∃ sg : Int, v = .int sg ∧ sg.natAbs ≤ 1 := by
      simp only [List.mem_cons, List.not_mem_nil, or_false] at hv
      rcases hv with rfl | rfl
      · exact ⟨1, rfl, by decide⟩
      · exact ⟨-1, rfl, by decide⟩
    have D2 := d1.trans ((SameBut.of sl).trans d2)
    have tb : (t1 * sg).natAbs < 2 ^ 140 := by
      rw [Int.natAbs_mul]
      have h1 := l134 t10 t11
      have h2 := Nat.mul_le_mul (Nat.le_of_lt h1) hs
      have h3 : (2 : Nat) ^ 134 * 1 < 2 ^ 140 := by decide
      omega
    refine ⟨_, _, rfl, rfl, wide_mul (l134 t10 t11) (Nat.lt_of_le_of_lt hs (show 1 < 2 ^ 2 by decide)) (by decide) (by decide) (by decide), ?_⟩
    refine ⟨_, rfl, (by show 2 ≤ sizeLine; decide), fun p0 h0 => ⟨(by show 2 ≤ sizeLine; decide), fun p1 h1 => ?_⟩⟩
    have s0 := same_new (o := .tup [.int 0, .int 1]) h0
    have s1 := same_new (o := .tup [.int 1, .int 1]) h1
    refine ⟨_, rfl, _, rfl, ww, _, rfl, w2.same (s0.trans s1), by omega, fun t2 H3 t20 t21 d3 f3 w3 => ⟨_, _, rfl, rfl, _, _, rfl, by omega, ?_, fun p2 h2 => ⟨(by show 3 ≤ sizeLine; decide), fun l2 hl2 => ?_⟩⟩⟩
    · exact up (show (1 + t2).natAbs < 2 ^ 140 by have := l134 t20 t21; omega) (by decide)
    have b2 : 0 < 1 + t2 := by omega
    have s2 := same_new (o := .tup [.int (lowT (t1 * sg) (1 + t2)), .int (lowB (t1 * sg) (1 + t2))]) h2
    have s3 := same_new (o := .lst [.ref p0, .ref p1, .ref p2]) hl2
    have e0 : Fr H3 p0 0 := d3 _ _ (w2.ne h0) (s1 _ _ upd_same)
    have e1 : Fr H3 p1 1 := d3 _ _ ((w2.same s0).ne h1) upd_same
    have f2' : Fr (upd H3 p2 (.tup [.int (lowT (t1 * sg) (1 + t2)), .int (lowB (t1 * sg) (1 + t2))])) p2 (Rat.divInt (t1 * sg) (1 + t2)) := Fr.low (by omega) rfl upd_same
    refine ⟨ww, l2, _, _, rfl, w3.same (s2.trans s3), by omega, (w3.same s2).ne hl2, upd_same, by show 0 < 3; decide, by show 3 ≤ 1000; decide, fun v hv H4 d4 f4 w4 => ?_⟩
    have D3 : SameBut ww H H3 := D2.trans ((SameBut.of (s0.trans s1)).trans d3)
    have D4 : SameBut ww H H4 := D3.trans ((SameBut.of (s2.trans s3)).trans d4)
    have w9 := w3.same (s2.trans s3)
    have n0 : H p0 = none := but_free D2 h0 (w2.ne h0)
    have n1 : H p1 = none := but_free (D2.trans (SameBut.of s0)) h1 ((w2.same s0).ne h1)
    have n2 : H p2 = none := but_free D3 h2 (w3.ne h2)
    simp only [List.mem_cons, List.not_mem_nil, or_false] at hv
    rcases hv with rfl | rfl | rfl
    · exact q p0 0 H4 n0 D4 (w4.mono (by omega)) (d4 _ _ (w2.ne h0) (s3 _ _ (s2 _ _ e0))) sm_zero
    · exact q p1 1 H4 n1 D4 (w4.mono (by omega)) (d4 _ _ ((w2.same s0).ne h1) (s3 _ _ (s2 _ _ e1))) sm_one'
    · exact q p2 _ H4 n2 D4 (w4.mono (by omega)) (d4 _ _ (w3.ne h2) (s3 _ _ f2')) (sm_div b2 (by omega) tb)
end
end E1

namespace E1
open PySem PySem.Spec PyProof.Rows L2
theorem FrL.nw {H : Hp} {a w : Addr} {qs : List Rat} {c : Int} (h : FrL H a qs) (hw : WellAt H w c) : a ≠ w := fun e => by
  obtain ⟨vs, h1, h2⟩ := h
  obtain ⟨x, y, z, h3, _⟩ := hw
  rw [e, h3] at h1
  cases h1
  cases hq : qs with
  | nil => rw [hq] at h2; cases h2
  | cons q qs' => rw [hq] at h2; cases h2
def llD (qss : List (List Rat)) : List PyData := qss.map fun qs => .list (qs.map frD)
theorem ll_lay : ∀ qss : List (List Rat), PyData.canLayAll0 (llD qss) = true
  | [] => rfl
  | qs :: qss => by
    unfold llD
    rw [List.map_cons, PyData.canLayAll0]
    have i := ll_lay qss
    unfold llD at i
    rw [i, Bool.and_true]
    exact SeqAt.canLay_of_shaped (frL_shaped qs)
theorem ll_deep : ∀ qss : List (List Rat), PyData.depthAll (llD qss) ≤ 6
  | [] => by simp [llD, PyData.depthAll]
  | qs :: qss => by
    have i := ll_deep qss
    have j := frDs_deep qs
    unfold llD at *
    simp only [List.map_cons, PyData.depthAll, PyData.depth]
    omega
theorem ll_shaped (qss : List (List Rat)) : SeqAt.shaped (.list (llD qss)) = true := by
  have h1 := ll_deep qss
  have h2 : PyData.depth (.list (llD qss)) ≤ 64 := by simp only [PyData.depth]; omega
  show (PyData.canLay0 (.list (llD qss)) && decide (PyData.depth (.list (llD qss)) ≤ 64)) = true
  rw [Bool.and_eq_true]
  exact ⟨by simp only [PyData.canLay0]; exact ll_lay qss, decide_eq_true h2⟩
theorem ll_eqv (qss : List (List Rat)) : PyData.eqv (.list (llD qss)) (.list (llD qss)) = true := SeqAt.eqv_refl _ (SeqAt.canLay_of_shaped (ll_shaped qss))
theorem FrL.dp {K : PySem.W.Frag} {H : Hp} {a : Addr} {qs : List Rat} (h : FrL H a qs) : Dp K H (.ref a) (.list (qs.map frD)) := by
  obtain ⟨vs, e, r⟩ := h
  exact .lst (SqL.of e) (FrsAt.dp r)
theorem SeL.dpAll {K : PySem.W.Frag} {H : Hp} : ∀ {ss : List (List Rat)} {vs : List V}, SeL H vs ss → DpAll K H vs (llD ss)
  | [], [], _ => .nil
  | [], _ :: _, h => by cases h.1
  | _ :: _, [], h => by cases h.1
  | s :: ss, v :: vs, h => by
    obtain ⟨b, e, f⟩ := h.2 0 s rfl
    cases e
    exact .cons f.dp (SeL.dpAll ⟨Nat.succ.inj h.1, fun i r hr => h.2 (i + 1) r hr⟩)
theorem SeL.well {H H' : Hp} {w : Addr} {c : Int} {vs : List V} {ss : List (List Rat)} (h : SeL H vs ss) (s : SameBut w H H') (hw : WellAt H w c) : SeL H' vs ss := ⟨h.1, fun i r e => let ⟨b, e1, f⟩ := h.2 i r e; ⟨b, e1, f.well s hw (f.nw hw)⟩⟩
theorem SeL.nw {H : Hp} {w a : Addr} {c : Int} {vs : List V} {ss : List (List Rat)} (h : SeL H vs ss) (ha : H a = some (.lst vs)) (hw : WellAt H w c) : a ≠ w := fun e => by
  obtain ⟨x, y, z, h3, _⟩ := hw
  rw [e, h3] at ha
  cases ha
  obtain ⟨b, s, e1, _⟩ := h.get (i := 0) rfl
  cases e1
theorem sqT_ty {K : PySem.W.Frag} {H : Hp} {a : Addr} {xs : List V} (h : SqT K H a xs) : TyX K H (.ref a) (.type "tuple") := by
  rcases h with (h | ⟨o, h⟩) | ⟨o, _, _, h1, h2, _⟩
  · exact .base (.tup h)
  · exact .fTuple h
  · exact .kTuple h1 h2
theorem dpK {K : PySem.W.Frag} {H : Hp} {p : Addr} {q : Rat} (h : SqT K H p [.int q.num, .int (q.den : Int)]) : Dp K H (.ref p) (frD q) := .tup h (.cons (.int _) (.cons (.int _) .nil))
theorem FrsK.dp {K : PySem.W.Frag} {H : Hp} : ∀ {qs : List Rat} {vs : List V}, FrsK K H vs qs → DpAll K H vs (qs.map frD)
  | [], vs, h => by
    have : vs = [] := List.length_eq_zero_iff.mp h.1
    subst this
    exact .nil
  | q :: qs, [], h => by
    have := h.1
    cases this
  | q :: qs, v :: vs, h => by
    obtain ⟨p, e, f⟩ := h.2 0 q rfl
    cases e
    exact .cons (dpK f) (FrsK.dp ⟨Nat.succ.inj h.1, fun i r hr => h.2 (i + 1) r hr⟩)
theorem FrLK.dp {K : PySem.W.Frag} {H : Hp} {a : Addr} {qs : List Rat} (h : FrLK K H a qs) : Dp K H (.ref a) (.list (qs.map frD)) := by
  obtain ⟨vs, e, r⟩ := h
  exact .lst (SqL.of e) r.dp

/-- what the law's matrices are -/
structure MOk (n m : Nat) (A : List (List Rat)) : Prop where
  len : A.length = if m = 0 then 0 else n
  wid : ∀ s ∈ A, s.length = m
  sm : SmM A
theorem MOk.rect {n m : Nat} {A : List (List Rat)} (h : MOk n m A) (n10 : n ≤ 10) (m10 : m ≤ 10) : Rec A := by
  have w : A ≠ [] → widR A = m := fun e => by
    cases A with
    | nil => exact absurd rfl e
    | cons r A => exact h.wid r (List.mem_cons_self ..)
  have l := h.len
  refine ⟨by split at l <;> omega, fun s hs => ?_, fun e => ?_⟩
  · rw [h.wid s hs, w (fun z => by rw [z] at hs; cases hs)]
  · rw [w e]
    split at l
    · exact absurd (List.length_eq_zero_iff.mp l) e
    · omega
theorem MOk.w {n m : Nat} {A : List (List Rat)} (h : MOk n m A) (h0 : 0 < n ∨ m = 0) : widR A = m := by
  cases A with
  | nil =>
    have l := h.len
    show 0 = m
    by_cases c : m = 0
    · exact c.symm
    · rw [if_neg c] at l
      have : n = 0 := l.symm
      omega
  | cons r A => exact h.wid r (List.mem_cons_self ..)
def spMatrix : Sp := fun vs H Q _ => ∃ (w : Addr) (c : Int) (n m : Nat), vs = [.ref w, .int (n : Nat), .int (m : Nat)] ∧ WellAt H w c ∧ c ≤ 100000 ∧ n ≤ 10 ∧ m ≤ 10 ∧
  ∀ p us A H', H p = none → SameBut w H H' → WellAt H' w (c + 1000) → H' p = some (.lst us) → SeL H' us A → MOk n m A → Q (.ref p) H'
def spCols : Sp := fun vs H Q _ => ∃ (a : Addr) (ws : List V) (A : List (List Rat)), vs = [.ref a] ∧ H a = some (.lst ws) ∧ SeL H ws A ∧ Rec A ∧
  ∀ p us H', H p = none → Same H H' → H' p = some (.lst us) → SeL H' us (turnR A (widR A)) → Q (.ref p) H'
/-- whole numbers within tuples of two, within lists -/
def PlAt (K : PySem.W.Frag) : Nat → Hp → V → Prop
  | 0, _, _ => False
  | n + 1, H, v => (∃ (p : Addr) (t u : Int), v = .ref p ∧ SqT K H p [.int t, .int u]) ∨ ∃ (a : Addr) (vs : List V), v = .ref a ∧ H a = some (.lst vs) ∧ vs.length ≤ 900 ∧ ∀ x ∈ vs, PlAt K n H x
theorem PlAt.same {K : PySem.W.Frag} {H H' : Hp} (e : Same H H') : ∀ {n : Nat} {v : V}, PlAt K n H v → PlAt K n H' v
  | 0, _, h => h
  | n + 1, v, h => by
    rcases h with ⟨p, t, u, rfl, h⟩ | ⟨a, vs, rfl, h1, h2, h3⟩
    · exact .inl ⟨p, t, u, rfl, sqT_same h e⟩
    · exact .inr ⟨a, vs, rfl, e _ _ h1, h2, fun x hx => PlAt.same e (h3 x hx)⟩
def spPl (K : PySem.W.Frag) (n : Nat) : Sp := fun vs H Q _ => ∃ v, vs = [v] ∧ PlAt K n H v ∧ ∀ H', Same H H' → Q (.bl true) H'
section
variable {P : Program} {w : World} {K : PySem.W.Frag} {mg : Str → Option Value} {base : Heap}
theorem sc__law_matrix : FnScope ["_law_well_here", "_law_rows", "_law_columns_here", "_law_kind", "_law_i", "_law_j"] ["_law_well_here", "_law_rows", "_law_columns_here"] (defScope s__law_matrix) := ⟨rfl, rfl, rfl, by decide +kernel, rfl, by decide +kernel, by decide +kernel⟩
theorem ok__law_matrix {f : Addr} {fd : FuncData} (F : Fun K "_law_matrix" "_law_matrix" s__law_matrix f fd) (z : Zs mg) (c__law_one : Cal P w K mg base 2 "_law_one" ["_law_well_here", "_law_some"] spOne) (c__law_place : Cal P w K mg base 3 "_law_place" ["_law_well_here", "_law_kind"] spPlc) : FnOk P w K mg base CX0 4 f fd ["_law_well_here", "_law_rows", "_law_columns_here"] spMatrix := by
  refine F.ok sc__law_matrix (fun vs H Q E h => ?_) (fun cdv A outer s H vs Q E hr h => ?_)
  · obtain ⟨ww, c, n, m, rfl, _⟩ := h
    rfl
  · obtain ⟨ww, c, n, m, rfl, hw, hc, n10, m10, k⟩ := h
    refine ⟨_, (pss_cons (ps_set (i := 3) sc__law_matrix.nd rfl (.inr rfl) (pe_cal c__law_one hr (pa_cons (pv 0) (pa_cons (pe_lst (pa_cons pe_int (pa_cons pe_int (pa_cons pe_int (pa_cons pe_int pa_nil))))) pa_nil))))
      (pss_cons (ps_if (pt_cmpR op_eq (pv 2) pe_int (nomark _)) (pss_one (ps_ret (pe_lst pa_nil))) pss_nil)
      (pss_one (ps_ret (pe_lc (own := [("_law_i", 4)]) (g := gName 4) (tt := tYes) (te := (tLc (iRng1 (tCons (tVar 2) tNil)) (gName 5) tYes (tCall spPlc [] E0 (tCons (tVar 0) (tCons (tVar 3) tNil))) (([("_law_j", 5)] : List (Str × Nat)).map (·.2)))) (by rfl) sc__law_matrix.nd (pi_range1 (by rfl) z.range (pa_cons (pv 1) pa_nil)) (blkOk_by (own := [("_law_i", 4)]) (N := ["_law_well_here", "_law_rows", "_law_columns_here", "_law_kind", "_law_i", "_law_j"]) (sc := defScope s__law_matrix) (by decide +kernel)) (fun _ _ _ _ _ => by exact (pg_name (i := 4) sc__law_matrix.nd rfl (.inl rfl))) (fun _ _ _ _ _ => by exact pts_nil) (fun _ _ _ _ _ => by exact (@pe_lc _ _ _ _ _ _ _ _ _ _ _ _ (by rfl) sc__law_matrix.nd (pi_range1 (by rfl) z.range (pa_cons (pv 2) pa_nil)) (blkOk_by (own := [("_law_j", 5)]) (N := ["_law_well_here", "_law_rows", "_law_columns_here", "_law_kind", "_law_i", "_law_j"]) (sc := ({ kind := PySem.ScopeKind.function, names := [(".0", .local), ("_law_i", .local), ("range", .globalImplicit), ("_law_columns_here", .cell), ("_law_kind", .cell), ("_law_well_here", .cell)], isGenerator := false, isCoroutine := false, more := [] })) (by decide +kernel)) (fun _ _ _ _ _ => by exact (pg_name (i := 5) sc__law_matrix.nd rfl (.inl rfl))) (fun _ _ _ _ _ => by exact pts_nil) (fun _ _ _ _ _ => by exact (pe_cal c__law_place hr (pa_cons (pv 0) (pa_cons (pv 3) pa_nil)))) (by intro _; rfl)))))))), ?_⟩
    refine ⟨_, rfl, (by show 4 ≤ sizeLine; decide), fun l hl => ?_⟩
    have sl := same_new (o := .lst [.int 0, .int 0, .int 1, .int 2]) hl
    refine ⟨ww, l, c, _, rfl, hw.same sl, by omega, hw.ne hl, upd_same, by show 0 < 4; decide, by show 4 ≤ 1000; decide, fun v hv H1 d1 f1 w1 => ?_⟩
    obtain ⟨kd, rfl⟩ : ∃ kd : Int, v = .int kd := by
      simp only [List.mem_cons, List.not_mem_nil, or_false] at hv
      rcases hv with rfl | rfl | rfl | rfl <;> exact ⟨_, rfl⟩
    have D1 := (SameBut.of sl).trans d1
    refine ⟨_, rfl, rfl, _, rfl, ite2 (fun c1 => ?_) (fun c1 => ?_)⟩
    · have m0 : m = 0 := by have := V.int.inj (toB c1); omega
      refine ⟨(by show 0 ≤ sizeLine; decide), fun p hp => ?_⟩
      have sp := same_new (o := .lst []) hp
      exact k p [] [] _ (but_free D1 hp (w1.ne hp)) (D1.trans (SameBut.of sp)) ((w1.same sp).mono (by omega)) upd_same ⟨rfl, fun i s e => by cases e⟩ ⟨by rw [if_pos m0]; rfl, fun s hs => (by cases hs), fun s hs => by cases hs⟩
    · have m0 : m ≠ 0 := fun e => toNB c1 (by rw [e]; rfl)
      refine ⟨_, rfl, n, rfl, by omega, by omega, fun D hD => ?_⟩
      rw [Int.toNat_natCast]
      have nD := w1.ne hD
      have hDH := but_free D1 hD nD
      refine lc_range (lo := 0) (n := n) (fun i G => SameBut ww H G ∧ WellAt G ww (c + 1 + 80 * (i : Int)) ∧ ∃ us A, G D = some (.lst us) ∧ (∀ v ∈ us, v ≠ .ref D) ∧ SeL G us A ∧ A.length = i ∧ (∀ s ∈ A, s.length = m) ∧ SmM A) ⟨D1.trans (SameBut.of (same_new hD)), (w1.same (same_new hD)).mono (by omega), [], [], upd_same, (fun v hv => absurd hv List.not_mem_nil), ⟨rfl, fun i s e => by cases e⟩, rfl, (fun s hs => by cases hs), fun s hs => by cases hs⟩ (fun i G hi hP => ?_) (fun G hP => ?_)
      · obtain ⟨dG, wG, us, A, eD, nus, se, lA, wA, smA⟩ := hP
        refine ⟨rfl, ?_⟩
        refine ⟨_, rfl, m, rfl, by omega, by omega, fun D4 hD4 => ?_⟩
        rw [Int.toNat_natCast]
        have nD4 := wG.ne hD4
        refine lc_range (lo := 0) (n := m) (fun j Y => SameBut ww G Y ∧ WellAt Y ww (c + 1 + 80 * (i : Int) + 8 * (j : Int)) ∧ ∃ qs, FrL Y D4 qs ∧ qs.length = j ∧ ∀ q ∈ qs, Sm q) ⟨SameBut.of (same_new hD4), (wG.same (same_new hD4)).mono (by omega), [], ⟨[], upd_same, .nil⟩, rfl, fun q hq => by cases hq⟩ (fun j Y hj hQ => ?_) (fun Y hQ => ?_)
        · obtain ⟨dY, wY, qs, ⟨vs, hv, fv⟩, lq, smq⟩ := hQ
          refine ⟨rfl, _, rfl, _, rfl, ww, _, kd, rfl, wY, by omega, fun p q Y2 hp d2 w2 f2 sm2 => ?_⟩
          have hv2 := d2 _ _ nD4 hv
          have np : p ≠ D4 := fun e => by
            rw [e, hv] at hp
            cases hp
          have lv := FrsAt.len fv
          refine ⟨vs, hv2, small1000 (by omega), fun b o nb e => ?_, ?_, qs ++ [q], ⟨vs ++ [.ref p], upd_same, FrsAt.app (PrsAt.but (PrsAt.well fv d2 wY) SameBut.upd hv2) (FrsAt.one ?_)⟩, by rw [List.length_append, lq]; rfl, fun x hx => ?_⟩
          · rw [upd_ne (ne_of_none e hD4)]
            exact d2 _ _ nb (dY _ _ nb e)
          · exact (w2.but SameBut.upd (Ne.symm nD4)).mono (by omega)
          · show (upd Y2 D4 _) p = _
            rw [upd_ne np]
            exact f2
          · rcases List.mem_append.mp hx with hx | hx
            · exact smq x hx
            · rw [List.mem_singleton.mp hx]
              exact sm2
        · obtain ⟨dY, wY, qs, fr, lq, smq⟩ := hQ
          have eDY := dY _ _ nD eD
          have n4 : D4 ≠ D := fun e => by
            rw [e, eD] at hD4
            cases hD4
          have lu := se.1
          refine ⟨us, eDY, small1000 (by omega), fun b o nb e => ?_, ?_, us ++ [.ref D4], A ++ [qs], upd_same, fun v hv => ?_, SeL.app ((se.well dY wG).butN eDY nus SameBut.upd) (SeL.one (fr.but n4 SameBut.upd eDY)), by rw [List.length_append, lA]; rfl, fun s hs => ?_, fun s hs => ?_⟩
          · rw [upd_ne (ne_of_none e hDH)]
            exact dY _ _ nb (dG _ _ nb e)
          · exact (wY.but SameBut.upd (Ne.symm nD)).mono (by omega)
          · rcases List.mem_append.mp hv with h | h
            · exact nus v h
            · rw [List.mem_singleton.mp h]
              exact fun z => n4 (V.ref.inj z)
          · rcases List.mem_append.mp hs with h | h
            · exact wA s h
            · rw [List.mem_singleton.mp h]
              exact lq
          · rcases List.mem_append.mp hs with h | h
            · exact smA s h
            · rw [List.mem_singleton.mp h]
              exact smq
      · obtain ⟨dG, wG, us, A, eD, nus, se, lA, wA, smA⟩ := hP
        exact k D us A G hDH dG (wG.mono (by omega)) eD se ⟨by rw [if_neg m0]; exact lA, wA, smA⟩
theorem sc__law_columns : FnScope ["_law_matrix_here", "_law_k", "_law_row"] ["_law_matrix_here"] (defScope s__law_columns) := ⟨rfl, rfl, rfl, by decide +kernel, rfl, by decide +kernel, by decide +kernel⟩
theorem ok__law_columns {f : Addr} {fd : FuncData} {k : Nat} (F : Fun K "_law_columns" "_law_columns" s__law_columns f fd) (z : Zs mg) : FnOk P w K mg base CX0 (k + 1) f fd ["_law_matrix_here"] spCols := by
  refine F.ok sc__law_columns (fun vs H Q E h => ?_) (fun cdv A outer s H vs Q E hr h => ?_)
  · obtain ⟨a, ws, A, rfl, _⟩ := h
    rfl
  · obtain ⟨a, ws, A, rfl, ha, hs, rc, k⟩ := h
    refine ⟨_, (pss_cons (ps_if (pt_cmpR (op_eqD hr.units) (pv 0) (pe_lst pa_nil) (nomark _)) (pss_one (ps_ret (pe_lst pa_nil))) pss_nil)
      (pss_one (ps_ret (pe_lc (own := [("_law_k", 1)]) (g := gName 1) (tt := tYes) (te := (tLc (iList K (tVar 0)) (gName 2) tYes (tOp (rIxL K) (tVar 2) (tVar 1)) (([("_law_row", 2)] : List (Str × Nat)).map (·.2)))) (by rfl) sc__law_columns.nd (pi_range1 (by rfl) z.range (pa_cons (pe_callB call_len_seq (by rfl) z.len PySem.boot_len (pa_cons (pe_ix ix_list (pv 0) pe_int (fun _ _ => rfl)) pa_nil)) pa_nil)) (blkOk_by (own := [("_law_k", 1)]) (N := ["_law_matrix_here", "_law_k", "_law_row"]) (sc := defScope s__law_columns) (by decide +kernel)) (fun _ _ _ _ _ => by exact (pg_name (i := 1) sc__law_columns.nd rfl (.inr rfl))) (fun _ _ _ _ _ => by exact pts_nil) (fun _ _ _ _ _ => by exact (@pe_lc _ _ _ _ _ _ _ _ _ _ _ _ (by rfl) sc__law_columns.nd (pi_list (pv 0)) (blkOk_by (own := [("_law_row", 2)]) (N := ["_law_matrix_here", "_law_k", "_law_row"]) (sc := ({ kind := PySem.ScopeKind.function, names := [(".0", .local), ("_law_k", .cell), ("_law_matrix_here", .cell)], isGenerator := false, isCoroutine := false, more := [] })) (by decide +kernel)) (fun _ _ _ _ _ => by exact (pg_name (i := 2) sc__law_columns.nd rfl (.inl rfl))) (fun _ _ _ _ _ => by exact pts_nil) (fun _ _ _ _ _ => by exact (pe_ix ix_list (pv 2) (pv 1) (fun _ _ => rfl))) (by intro _; rfl))))))), ?_⟩
    have lw := hs.1
    refine ⟨_, rfl, (by show 0 ≤ sizeLine; decide), fun e0 h0 => ?_⟩
    have s0 := same_new (o := .lst []) h0
    have ha0 := s0 _ _ ha
    refine ⟨.list (llD A), .list [], .lst (SqL.of ha0) (hs.same s0).dpAll, .lst (SqL.of upd_same) .nil, ll_shaped _, rfl, _, rfl, ?_⟩
    cases A with
    | nil =>
      rw [show PyData.eqv (.list (llD [])) (.list []) = true from rfl]
      refine iteT ⟨(by show 0 ≤ sizeLine; decide), fun p hp => ?_⟩
      have s1 := same_new (o := .lst []) hp
      exact k p [] _ (s0.free hp) (s0.trans s1) upd_same ⟨rfl, fun i s e => by cases e⟩
    | cons r0 A0 =>
      rw [show PyData.eqv (.list (llD (r0 :: A0))) (.list []) = false from rfl]
      refine iteF ?_
      generalize hA : r0 :: A0 = A at *
      have nA : 0 < A.length := by rw [← hA]; exact Nat.succ_pos _
      have n10 := rc.n10
      obtain ⟨b0, eb, f0⟩ := hs.2 0 _ (List.getElem?_eq_getElem nA)
      have w0 := rc.row (List.getElem_mem nA)
      obtain ⟨v0, hv0, l0, _⟩ := (f0.same s0).len
      refine ⟨_, rfl, a, ws, 0, .ref b0, rfl, rfl, SqL.of ha0, atI_nat (j := 0) eb, ?_⟩
      refine ⟨b0, v0, rfl, .inl (SqL.of hv0), ?_⟩
      refine ⟨widR A, by rw [l0, w0.1], by omega, by omega, fun D hD => ?_⟩
      rw [Int.toNat_natCast]
      refine lc_range (lo := 0) (n := widR A) (fun i X => Same H X ∧ ∃ us, X D = some (.lst us) ∧ (∀ v ∈ us, v ≠ .ref D) ∧ SeL X us (turnR A i)) ⟨s0.trans (same_new hD), [], upd_same, (fun v hv => absurd hv List.not_mem_nil), rfl, fun i s e => by cases e⟩ (fun i X hi hP => ?_) (fun X hP => ?_)
      · obtain ⟨sX, us, eD, nus, se⟩ := hP
        have lv := se.1
        unfold turnR at lv
        rw [List.length_map, List.length_range] at lv
        have haX := sX _ _ ha
        refine ⟨rfl, ?_⟩
        refine ⟨_, rfl, a, rfl, ⟨_, SqL.of haX⟩, fun D4 hD4 => lc_list (K := K) (a := a) (xs := ws) (fun j Y => Same X Y ∧ FrL Y D4 ((A.take j).map fun r => r.getD i 0)) ⟨same_new hD4, [], upd_same, by rw [List.take_zero]; exact .nil⟩ (fun j Y _ hP => SqL.of (hP.1 _ _ haX)) (fun j x Y hj hQ => ?_) (fun Y hQ => ?_)⟩
        · obtain ⟨sY, vs, hv, fv⟩ := hQ
          obtain ⟨b, r, rfl, hr2, fb⟩ := hs.get hj
          have lj := (List.getElem?_eq_some_iff.mp hr2).1
          have wr := rc.row (List.mem_of_getElem? hr2)
          obtain ⟨rv, hb, lb, frv⟩ := (fb.same (sX.trans sY)).len
          obtain ⟨p, e1, f1⟩ := FrsAt.at frv (show r[i]? = some (r.getD i 0) by rw [List.getD_eq_getElem?_getD, List.getElem?_eq_getElem (by omega)]; rfl)
          have l4 := FrsAt.len fv
          rw [List.length_map, List.length_take] at l4
          refine ⟨rfl, ?_⟩
          refine ⟨_, rfl, _, rfl, b, rv, (i : Nat), .ref p, rfl, by rw [Int.zero_add], SqL.of hb, atI_nat e1, ?_⟩
          refine ⟨vs, hv, small1000 (by omega), fun c o e => ?_, vs ++ [.ref p], upd_same, ?_⟩
          · rw [upd_ne (ne_of_none e hD4)]
            exact sY _ _ e
          · rw [show A.take (j + 1) = A.take j ++ [r] by rw [List.take_succ, hr2]; rfl, List.map_append]
            refine FrsAt.app (PrsAt.but fv SameBut.upd hv) (FrsAt.one ?_)
            show (upd Y D4 _) p = _
            rw [upd_ne (ne_of f1 hv (fun z => nomatch z))]
            exact f1
        · obtain ⟨sY, fr⟩ := hQ
          rw [List.take_of_length_le (by omega)] at fr
          have eDY := sY _ _ eD
          have n4 : D4 ≠ D := fun e => by
            rw [e, eD] at hD4
            cases hD4
          have w10 := rc.w10
          refine ⟨us, eDY, small1000 (by omega), fun c o e => ?_, us ++ [.ref D4], upd_same, fun v hv => ?_, ?_⟩
          · rw [upd_ne (ne_of_none (s0 _ _ e) hD)]
            exact sY _ _ (sX _ _ e)
          · rcases List.mem_append.mp hv with h | h
            · exact nus v h
            · rw [List.mem_singleton.mp h]
              exact fun z => n4 (V.ref.inj z)
          · unfold turnR
            rw [List.range_succ, List.map_append]
            exact SeL.app ((se.same sY).butN eDY nus SameBut.upd) (SeL.one (fr.but n4 SameBut.upd eDY))
      · obtain ⟨sX, us, eD, nus, se⟩ := hP
        exact k D us X (s0.free hD) sX eD se
theorem sc__law_plain : FnScope ["_law_told", "_law_one_here"] ["_law_told"] (defScope s__law_plain) := ⟨rfl, rfl, rfl, by decide +kernel, rfl, by decide +kernel, by decide +kernel⟩
theorem ok_plain1 {f : Addr} {fd : FuncData} (F : Fun K "_law_plain" "_law_plain" s__law_plain f fd) (z : Zs mg) (c__law_plain : Cal P w K mg base 1 "_law_plain" ["_law_told"] (spPl K 0)) : FnOk P w K mg base CX0 2 f fd ["_law_told"] (spPl K 1) := by
  refine F.ok sc__law_plain (fun vs H Q E h => ?_) (fun cdv A outer s H vs Q E hr h => ?_)
  · obtain ⟨v, rfl, _⟩ := h
    rfl
  · obtain ⟨v, rfl, hv, k⟩ := h
    refine ⟨_, (pss_cons (ps_if (pt_val (pe_callB call_isi (by rfl) z.isinstance (by decide +kernel) (pa_cons (pv 0) (pa_cons (pe_bltn (v := .ty "list") (by rfl) z.list (by decide +kernel) rfl) pa_nil)))) (pss_one (ps_ret (pe_callB (cr_all rfl) (by rfl) z.all (by decide +kernel) (pa_cons (pe_lc (own := [("_law_one_here", 1)]) (g := gName 1) (tt := tYes) (te := (tCall (spPl K 0) [] E0 (tCons (tVar 1) tNil))) (by rfl) sc__law_plain.nd (pi_list (pv 0)) (blkOk_by (own := [("_law_one_here", 1)]) (N := ["_law_told", "_law_one_here"]) (sc := defScope s__law_plain) (by decide +kernel)) (fun _ _ _ _ _ => by exact (pg_name (i := 1) sc__law_plain.nd rfl (.inl rfl))) (fun _ _ _ _ _ => by exact pts_nil) (fun _ _ _ _ _ => by exact (pe_cal c__law_plain hr (pa_cons (pv 1) pa_nil)))) pa_nil)))) pss_nil)
      (pss_cons (ps_if (PW.pt (pw_or (pt_not (pt_val (pe_callB call_isi (by rfl) z.isinstance (by decide +kernel) (pa_cons (pv 0) (pa_cons (pe_bltn (v := .ty "tuple") (by rfl) z.tuple (by decide +kernel) rfl) pa_nil))))) (pw_or1 (pt_cmpR op_ne (pe_callB call_len_seq (by rfl) z.len PySem.boot_len (pa_cons (pv 0) pa_nil)) pe_int (nomark _))))) (pss_one (ps_ret pe_bl)) pss_nil)
      (pss_one (ps_ret (pe_callB (cr_all rfl) (by rfl) z.all (by decide +kernel) (pa_cons (pe_lc (own := [("_law_one_here", 1)]) (g := gName 1) (tt := tYes) (te := tAndV (tCB (rIsi K) (tCons (tVar 1) (tCons (tC (.ty "int")) tNil))) (tNotV (tCB (rIsi K) (tCons (tVar 1) (tCons (tC (.ty "bool")) tNil))))) (by rfl) sc__law_plain.nd (pi_tup (pv 0)) (blkOk_by (own := [("_law_one_here", 1)]) (N := ["_law_told", "_law_one_here"]) (sc := defScope s__law_plain) (by decide +kernel)) (fun _ _ _ _ _ => by exact (pg_name (i := 1) sc__law_plain.nd rfl (.inl rfl))) (fun _ _ _ _ _ => by exact pts_nil) (fun _ _ _ _ _ => by exact (pe_and (pe_callB call_isi (by rfl) z.isinstance (by decide +kernel) (pa_cons (pv 1) (pa_cons (pe_bltn (v := .ty "int") (by rfl) z.int (by decide +kernel) rfl) pa_nil))) (pe_one (pe_not (pe_callB call_isi (by rfl) z.isinstance (by decide +kernel) (pa_cons (pv 1) (pa_cons (pe_bltn (v := .ty "bool") (by rfl) z.bool (by decide +kernel) rfl) pa_nil)))))))) pa_nil)))))), ?_⟩
    rcases hv with ⟨p, t, u, rfl, ht⟩ | ⟨a, vs, rfl, ha, hl, hx⟩
    · refine ⟨_, rfl, _, .ty "list", _, _, false, rfl, .ty _, sqT_ty ht, kit_ty (by decide +kernel), _, rfl, iteF ?_⟩
      refine ⟨_, rfl, _, .ty "tuple", _, _, true, rfl, .ty _, sqT_ty ht, kit_ty (by decide +kernel), _, rfl, iteF ⟨_, rfl, p, _, rfl, .inr ht, rfl, _, rfl, iteF ?_⟩⟩
      refine ⟨_, rfl, p, rfl, ⟨_, ht⟩, fun D hD => lc_tup (K := K) (a := p) (xs := [.int t, .int u]) (fun i H' => Same H H' ∧ H' D = some (.lst (List.replicate i (V.bl true)))) ⟨same_new hD, upd_same⟩ (fun i H' _ hP => sqT_same ht hP.1) (fun i x H' hx hP => ?_) (fun H' hP => ?_)⟩
      · obtain ⟨s1, hacc⟩ := hP
        obtain ⟨n, rfl⟩ : ∃ n : Int, x = .int n := by
          have := List.mem_of_getElem? hx
          simp only [List.mem_cons, List.not_mem_nil, or_false] at this
          rcases this with rfl | rfl <;> exact ⟨_, rfl⟩
        have hi : i < 2 := (List.getElem?_eq_some_iff.mp hx).1
        refine ⟨rfl, _, rfl, _, .ty "int", _, _, true, rfl, .ty _, .base (.int _), kit_ty (by decide +kernel), _, rfl, iteT ⟨_, rfl, _, .ty "bool", _, _, false, rfl, .ty _, .base (.int _), kit_ty (by decide +kernel), _, rfl, ?_⟩⟩
        refine ⟨_, hacc, ?_, fun b o e => ?_, ?_⟩
        · rw [List.length_replicate]
          exact small1000 (by omega)
        · rw [upd_ne (ne_of_none e hD)]
          exact s1 _ _ e
        · rw [upd_same, List.replicate_succ']
          rfl
      · obtain ⟨s1, hacc⟩ := hP
        refine ⟨D, List.replicate _ true, rfl, SqL.of (by rw [List.map_replicate]; exact hacc), ?_⟩
        rw [rep_all]
        exact k _ s1
    · refine ⟨_, rfl, _, .ty "list", _, _, true, rfl, .ty _, .base (.lst ha), kit_ty (by decide +kernel), _, rfl, iteT ⟨_, rfl, a, rfl, ⟨_, SqL.of ha⟩, fun D hD => lc_list (K := K) (a := a) (xs := vs) (fun i H' => Same H H' ∧ H' D = some (.lst (List.replicate i (V.bl true)))) ⟨same_new hD, upd_same⟩ (fun i H' _ hP => SqL.of (hP.1 _ _ ha)) (fun i x H' hy hP => ?_) (fun H' hP => ?_)⟩⟩
      · obtain ⟨s1, hacc⟩ := hP
        have hi := (List.getElem?_eq_some_iff.mp hy).1
        refine ⟨rfl, _, rfl, x, rfl, (hx x (List.mem_of_getElem? hy)).same s1, fun H2 s2 => ?_⟩
        refine ⟨_, s2 _ _ hacc, ?_, fun b o e => ?_, ?_⟩
        · rw [List.length_replicate]
          exact small1000 (by omega)
        · rw [upd_ne (ne_of_none e hD)]
          exact s2 _ _ (s1 _ _ e)
        · rw [upd_same, List.replicate_succ']
      · obtain ⟨s1, hacc⟩ := hP
        refine ⟨D, List.replicate _ true, rfl, SqL.of (by rw [List.map_replicate]; exact hacc), ?_⟩
        rw [rep_all]
        exact k _ s1
theorem ok_plain2 {f : Addr} {fd : FuncData} (F : Fun K "_law_plain" "_law_plain" s__law_plain f fd) (z : Zs mg) (c__law_plain : Cal P w K mg base 2 "_law_plain" ["_law_told"] (spPl K 1)) : FnOk P w K mg base CX0 3 f fd ["_law_told"] (spPl K 2) := by
  refine F.ok sc__law_plain (fun vs H Q E h => ?_) (fun cdv A outer s H vs Q E hr h => ?_)
  · obtain ⟨v, rfl, _⟩ := h
    rfl
  · obtain ⟨v, rfl, hv, k⟩ := h
    refine ⟨_, (pss_cons (ps_if (pt_val (pe_callB call_isi (by rfl) z.isinstance (by decide +kernel) (pa_cons (pv 0) (pa_cons (pe_bltn (v := .ty "list") (by rfl) z.list (by decide +kernel) rfl) pa_nil)))) (pss_one (ps_ret (pe_callB (cr_all rfl) (by rfl) z.all (by decide +kernel) (pa_cons (pe_lc (own := [("_law_one_here", 1)]) (g := gName 1) (tt := tYes) (te := (tCall (spPl K 1) [] E0 (tCons (tVar 1) tNil))) (by rfl) sc__law_plain.nd (pi_list (pv 0)) (blkOk_by (own := [("_law_one_here", 1)]) (N := ["_law_told", "_law_one_here"]) (sc := defScope s__law_plain) (by decide +kernel)) (fun _ _ _ _ _ => by exact (pg_name (i := 1) sc__law_plain.nd rfl (.inl rfl))) (fun _ _ _ _ _ => by exact pts_nil) (fun _ _ _ _ _ => by exact (pe_cal c__law_plain hr (pa_cons (pv 1) pa_nil)))) pa_nil)))) pss_nil)
      (pss_cons (ps_if (PW.pt (pw_or (pt_not (pt_val (pe_callB call_isi (by rfl) z.isinstance (by decide +kernel) (pa_cons (pv 0) (pa_cons (pe_bltn (v := .ty "tuple") (by rfl) z.tuple (by decide +kernel) rfl) pa_nil))))) (pw_or1 (pt_cmpR op_ne (pe_callB call_len_seq (by rfl) z.len PySem.boot_len (pa_cons (pv 0) pa_nil)) pe_int (nomark _))))) (pss_one (ps_ret pe_bl)) pss_nil)
      (pss_one (ps_ret (pe_callB (cr_all rfl) (by rfl) z.all (by decide +kernel) (pa_cons (pe_lc (own := [("_law_one_here", 1)]) (g := gName 1) (tt := tYes) (te := tAndV (tCB (rIsi K) (tCons (tVar 1) (tCons (tC (.ty "int")) tNil))) (tNotV (tCB (rIsi K) (tCons (tVar 1) (tCons (tC (.ty "bool")) tNil))))) (by rfl) sc__law_plain.nd (pi_tup (pv 0)) (blkOk_by (own := [("_law_one_here", 1)]) (N := ["_law_told", "_law_one_here"]) (sc := defScope s__law_plain) (by decide +kernel)) (fun _ _ _ _ _ => by exact (pg_name (i := 1) sc__law_plain.nd rfl (.inl rfl))) (fun _ _ _ _ _ => by exact pts_nil) (fun _ _ _ _ _ => by exact (pe_and (pe_callB call_isi (by rfl) z.isinstance (by decide +kernel) (pa_cons (pv 1) (pa_cons (pe_bltn (v := .ty "int") (by rfl) z.int (by decide +kernel) rfl) pa_nil))) (pe_one (pe_not (pe_callB call_isi (by rfl) z.isinstance (by decide +kernel) (pa_cons (pv 1) (pa_cons (pe_bltn (v := .ty "bool") (by rfl) z.bool (by decide +kernel) rfl) pa_nil)))))))) pa_nil)))))), ?_⟩
    rcases hv with ⟨p, t, u, rfl, ht⟩ | ⟨a, vs, rfl, ha, hl, hx⟩
    · refine ⟨_, rfl, _, .ty "list", _, _, false, rfl, .ty _, sqT_ty ht, kit_ty (by decide +kernel), _, rfl, iteF ?_⟩
      refine ⟨_, rfl, _, .ty "tuple", _, _, true, rfl, .ty _, sqT_ty ht, kit_ty (by decide +kernel), _, rfl, iteF ⟨_, rfl, p, _, rfl, .inr ht, rfl, _, rfl, iteF ?_⟩⟩
      refine ⟨_, rfl, p, rfl, ⟨_, ht⟩, fun D hD => lc_tup (K := K) (a := p) (xs := [.int t, .int u]) (fun i H' => Same H H' ∧ H' D = some (.lst (List.replicate i (V.bl true)))) ⟨same_new hD, upd_same⟩ (fun i H' _ hP => sqT_same ht hP.1) (fun i x H' hx hP => ?_) (fun H' hP => ?_)⟩
      · obtain ⟨s1, hacc⟩ := hP
        obtain ⟨n, rfl⟩ : ∃ n : Int, x = .int n := by
          have := List.mem_of_getElem? hx
          simp only [List.mem_cons, List.not_mem_nil, or_false] at this
          rcases this with rfl | rfl <;> exact ⟨_, rfl⟩
        have hi : i < 2 := (List.getElem?_eq_some_iff.mp hx).1
        refine ⟨rfl, _, rfl, _, .ty "int", _, _, true, rfl, .ty _, .base (.int _), kit_ty (by decide +kernel), _, rfl, iteT ⟨_, rfl, _, .ty "bool", _, _, false, rfl, .ty _, .base (.int _), kit_ty (by decide +kernel), _, rfl, ?_⟩⟩
        refine ⟨_, hacc, ?_, fun b o e => ?_, ?_⟩
        · rw [List.length_replicate]
          exact small1000 (by omega)
        · rw [upd_ne (ne_of_none e hD)]
          exact s1 _ _ e
        · rw [upd_same, List.replicate_succ']
          rfl
      · obtain ⟨s1, hacc⟩ := hP
        refine ⟨D, List.replicate _ true, rfl, SqL.of (by rw [List.map_replicate]; exact hacc), ?_⟩
        rw [rep_all]
        exact k _ s1
    · refine ⟨_, rfl, _, .ty "list", _, _, true, rfl, .ty _, .base (.lst ha), kit_ty (by decide +kernel), _, rfl, iteT ⟨_, rfl, a, rfl, ⟨_, SqL.of ha⟩, fun D hD => lc_list (K := K) (a := a) (xs := vs) (fun i H' => Same H H' ∧ H' D = some (.lst (List.replicate i (V.bl true)))) ⟨same_new hD, upd_same⟩ (fun i H' _ hP => SqL.of (hP.1 _ _ ha)) (fun i x H' hy hP => ?_) (fun H' hP => ?_)⟩⟩
      · obtain ⟨s1, hacc⟩ := hP
        have hi := (List.getElem?_eq_some_iff.mp hy).1
        refine ⟨rfl, _, rfl, x, rfl, (hx x (List.mem_of_getElem? hy)).same s1, fun H2 s2 => ?_⟩
        refine ⟨_, s2 _ _ hacc, ?_, fun b o e => ?_, ?_⟩
        · rw [List.length_replicate]
          exact small1000 (by omega)
        · rw [upd_ne (ne_of_none e hD)]
          exact s2 _ _ (s1 _ _ e)
        · rw [upd_same, List.replicate_succ']
      · obtain ⟨s1, hacc⟩ := hP
        refine ⟨D, List.replicate _ true, rfl, SqL.of (by rw [List.map_replicate]; exact hacc), ?_⟩
        rw [rep_all]
        exact k _ s1
theorem ok_plain3 {f : Addr} {fd : FuncData} (F : Fun K "_law_plain" "_law_plain" s__law_plain f fd) (z : Zs mg) (c__law_plain : Cal P w K mg base 3 "_law_plain" ["_law_told"] (spPl K 2)) : FnOk P w K mg base CX0 4 f fd ["_law_told"] (spPl K 3) := by
  refine F.ok sc__law_plain (fun vs H Q E h => ?_) (fun cdv A outer s H vs Q E hr h => ?_)
  · obtain ⟨v, rfl, _⟩ := h
    rfl
  · obtain ⟨v, rfl, hv, k⟩ := h
    refine ⟨_, (pss_cons (ps_if (pt_val (pe_callB call_isi (by rfl) z.isinstance (by decide +kernel) (pa_cons (pv 0) (pa_cons (pe_bltn (v := .ty "list") (by rfl) z.list (by decide +kernel) rfl) pa_nil)))) (pss_one (ps_ret (pe_callB (cr_all rfl) (by rfl) z.all (by decide +kernel) (pa_cons (pe_lc (own := [("_law_one_here", 1)]) (g := gName 1) (tt := tYes) (te := (tCall (spPl K 2) [] E0 (tCons (tVar 1) tNil))) (by rfl) sc__law_plain.nd (pi_list (pv 0)) (blkOk_by (own := [("_law_one_here", 1)]) (N := ["_law_told", "_law_one_here"]) (sc := defScope s__law_plain) (by decide +kernel)) (fun _ _ _ _ _ => by exact (pg_name (i := 1) sc__law_plain.nd rfl (.inl rfl))) (fun _ _ _ _ _ => by exact pts_nil) (fun _ _ _ _ _ => by exact (pe_cal c__law_plain hr (pa_cons (pv 1) pa_nil)))) pa_nil)))) pss_nil)
      (pss_cons (ps_if (PW.pt (pw_or (pt_not (pt_val (pe_callB call_isi (by rfl) z.isinstance (by decide +kernel) (pa_cons (pv 0) (pa_cons (pe_bltn (v := .ty "tuple") (by rfl) z.tuple (by decide +kernel) rfl) pa_nil))))) (pw_or1 (pt_cmpR op_ne (pe_callB call_len_seq (by rfl) z.len PySem.boot_len (pa_cons (pv 0) pa_nil)) pe_int (nomark _))))) (pss_one (ps_ret pe_bl)) pss_nil)
      (pss_one (ps_ret (pe_callB (cr_all rfl) (by rfl) z.all (by decide +kernel) (pa_cons (pe_lc (own := [("_law_one_here", 1)]) (g := gName 1) (tt := tYes) (te := tAndV (tCB (rIsi K) (tCons (tVar 1) (tCons (tC (.ty "int")) tNil))) (tNotV (tCB (rIsi K) (tCons (tVar 1) (tCons (tC (.ty "bool")) tNil))))) (by rfl) sc__law_plain.nd (pi_tup (pv 0)) (blkOk_by (own := [("_law_one_here", 1)]) (N := ["_law_told", "_law_one_here"]) (sc := defScope s__law_plain) (by decide +kernel)) (fun _ _ _ _ _ => by exact (pg_name (i := 1) sc__law_plain.nd rfl (.inl rfl))) (fun _ _ _ _ _ => by exact pts_nil) (fun _ _ _ _ _ => by exact (pe_and (pe_callB call_isi (by rfl) z.isinstance (by decide +kernel) (pa_cons (pv 1) (pa_cons (pe_bltn (v := .ty "int") (by rfl) z.int (by decide +kernel) rfl) pa_nil))) (pe_one (pe_not (pe_callB call_isi (by rfl) z.isinstance (by decide +kernel) (pa_cons (pv 1) (pa_cons (pe_bltn (v := .ty "bool") (by rfl) z.bool (by decide +kernel) rfl) pa_nil)))))))) pa_nil)))))), ?_⟩
    rcases hv with ⟨p, t, u, rfl, ht⟩ | ⟨a, vs, rfl, ha, hl, hx⟩
    · refine ⟨_, rfl, _, .ty "list", _, _, false, rfl, .ty _, sqT_ty ht, kit_ty (by decide +kernel), _, rfl, iteF ?_⟩
      refine ⟨_, rfl, _, .ty "tuple", _, _, true, rfl, .ty _, sqT_ty ht, kit_ty (by decide +kernel), _, rfl, iteF ⟨_, rfl, p, _, rfl, .inr ht, rfl, _, rfl, iteF ?_⟩⟩
      refine ⟨_, rfl, p, rfl, ⟨_, ht⟩, fun D hD => lc_tup (K := K) (a := p) (xs := [.int t, .int u]) (fun i H' => Same H H' ∧ H' D = some (.lst (List.replicate i (V.bl true)))) ⟨same_new hD, upd_same⟩ (fun i H' _ hP => sqT_same ht hP.1) (fun i x H' hx hP => ?_) (fun H' hP => ?_)⟩
      · obtain ⟨s1, hacc⟩ := hP
        obtain ⟨n, rfl⟩ : ∃ n : Int, x = .int n := by
          have := List.mem_of_getElem? hx
          simp only [List.mem_cons, List.not_mem_nil, or_false] at this
          rcases this with rfl | rfl <;> exact ⟨_, rfl⟩
        have hi : i < 2 := (List.getElem?_eq_some_iff.mp hx).1
        refine ⟨rfl, _, rfl, _, .ty "int", _, _, true, rfl, .ty _, .base (.int _), kit_ty (by decide +kernel), _, rfl, iteT ⟨_, rfl, _, .ty "bool", _, _, false, rfl, .ty _, .base (.int _), kit_ty (by decide +kernel), _, rfl, ?_⟩⟩
        refine ⟨_, hacc, ?_, fun b o e => ?_, ?_⟩
        · rw [List.length_replicate]
          exact small1000 (by omega)
        · rw [upd_ne (ne_of_none e hD)]
          exact s1 _ _ e
        · rw [upd_same, List.replicate_succ']
          rfl
      · obtain ⟨s1, hacc⟩ := hP
        refine ⟨D, List.replicate _ true, rfl, SqL.of (by rw [List.map_replicate]; exact hacc), ?_⟩
        rw [rep_all]
        exact k _ s1
    · refine ⟨_, rfl, _, .ty "list", _, _, true, rfl, .ty _, .base (.lst ha), kit_ty (by decide +kernel), _, rfl, iteT ⟨_, rfl, a, rfl, ⟨_, SqL.of ha⟩, fun D hD => lc_list (K := K) (a := a) (xs := vs) (fun i H' => Same H H' ∧ H' D = some (.lst (List.replicate i (V.bl true)))) ⟨same_new hD, upd_same⟩ (fun i H' _ hP => SqL.of (hP.1 _ _ ha)) (fun i x H' hy hP => ?_) (fun H' hP => ?_)⟩⟩
      · obtain ⟨s1, hacc⟩ := hP
        have hi := (List.getElem?_eq_some_iff.mp hy).1
        refine ⟨rfl, _, rfl, x, rfl, (hx x (List.mem_of_getElem? hy)).same s1, fun H2 s2 => ?_⟩
        refine ⟨_, s2 _ _ hacc, ?_, fun b o e => ?_, ?_⟩
        · rw [List.length_replicate]
          exact small1000 (by omega)
        · rw [upd_ne (ne_of_none e hD)]
          exact s2 _ _ (s1 _ _ e)
        · rw [upd_same, List.replicate_succ']
      · obtain ⟨s1, hacc⟩ := hP
        refine ⟨D, List.replicate _ true, rfl, SqL.of (by rw [List.map_replicate]; exact hacc), ?_⟩
        rw [rep_all]
        exact k _ s1
theorem ok_plain0 {f : Addr} {fd : FuncData} {k : Nat} (F : Fun K "_law_plain" "_law_plain" s__law_plain f fd) : FnOk P w K mg base CX0 (k + 1) f fd ["_law_told"] (spPl K 0) := by
  refine F.ok sc__law_plain (fun vs H Q E h => ?_) (fun cdv A outer s H vs Q E hr h => ?_)
  · obtain ⟨v, _, h, _⟩ := h
    exact False.elim h
  · obtain ⟨v, _, h, _⟩ := h
    exact False.elim h
end
end E1

namespace E1
open PySem PySem.Spec PyProof.Rows L2
section
variable {X : Cx}
abbrev lamQ (X : Cx) : Str := X.env.qual ++ "<lambda>"
abbrev lamOb (X : Cx) (pr : Arguments) (bd : Expr) (sc : Scope) (nm : Value) (cd : Addr) (ctx : Value) : Obj := PySem.W.kla_obj "<lambda>" (lamQ X) pr bd sc (cloFrom X.env.cells sc.names []) nm cd ctx
/-- the context of the def at g, called from X at state s -/
abbrev gotCx (X : Cx) (Ng : List Str) (qg : Str) (sg : Scope) (g : Addr) (cdg : Value) (s : Shared) (H : Hp) : Cx := cxOf C8.CX0 X.prog X.w X.K X.mg X.base Ng qg sg g cdg X.A X.stack s H C8.E0
/-- a def of the text that is handed a lambda -/
structure GotFn (K : PySem.W.Frag) (mg : Str → Option Value) (x a : Str) (st : Stmt) (Ng : List Str) (g : Addr) (cdg : Value) : Prop where
  gm : mg x = some (.ref g)
  kp : PySem.W.keepIn K (.ref g) = true
  fn : ∃ (oc : Value) (od : Option Addr) (dV kV doc pm ct : Value) (an : Option Addr) (osl : Array (Option Value)),
    K.lookup g = some ⟨oc, od, .func (PySem.W.fnOf x x (defArgs st) (defBody st) (defScope st) dV kV doc pm an cdg ct), osl⟩ ∧ L2.Binds K (PySem.W.fnOf x x (defArgs st) (defBody st) (defScope st) dV kV doc pm an cdg ct) [a] []
  cd : PySem.W.codeIn K cdg x = true
  sc : FnScope Ng [a] (defScope st)
  n0 : Ng[0]? = some a
  vs : Vis (defScope st) a
end
/-! ### lambdas kept in a list: the lambda's object is tracked -/
section
variable {X : Cx} {H : Hp}
/-- at f: the function object ob -/
def LamO (f : Addr) (ob : Obj) : HO := .ext fun h => h.get? f = some ob
theorem lamO_ok {P : Program} {w : World} {H : Hp} {h : Heap} {f : Addr} {ob : Obj} (e : h.get? f = some ob) : ObjOk P w H h f (LamO f ob) := ⟨e, ⟨ob, e⟩, fun _ _ a st => st _ a⟩
theorem lamO_ne {f : Addr} {ob : Obj} (ps : Array Value) : LamO f ob ≠ .tbl ps := fun z => by
  unfold LamO at z
  cases z
theorem lamO_at {P : Program} {w : World} {H : Hp} {h : Heap} {f : Addr} {ob : Obj} (hok : HOk P w H h) (e : H f = some (LamO f ob)) : h.get? f = some ob := (show ObjOk P w H h f (LamO f ob) from hok f _ e).1
/-- a table to which a new code object is written -/
theorem tabs_put {T : List (Addr × Str)} {P c : Addr} {q : Str} {ps : Array Value} {pos : Pos} (hu : ∀ p ∈ T, p.1 = P → p.2 = q) (hT : LamX.Tabs T H) (hP : H P = some (.tbl ps)) (ht : TriplesOk ps.toList) (ha : ∀ (p' : Pos) (cv : Value), codeAmong p' ps.toList = some cv → ∃ c, cv = .ref c ∧ H c = some (LamX.CodeO c q)) (nC : H c = none) :
    LamX.ExtN H (upd (upd H P (.tbl (ps ++ #[rawInt pos.line, rawInt pos.col, .ref c]))) c (LamX.CodeO c q)) ∧ LamX.Tabs T (upd (upd H P (.tbl (ps ++ #[rawInt pos.line, rawInt pos.col, .ref c]))) c (LamX.CodeO c q)) := by
  have stays : LamX.ExtN H (upd (upd H P (.tbl (ps ++ #[rawInt pos.line, rawInt pos.col, .ref c]))) c (LamX.CodeO c q)) := fun b o e n => by
    have bc : b ≠ c := ne_of_none e nC
    have bP : b ≠ P := fun z => by
      subst z
      rw [hP] at e
      exact n ps (Option.some.inj e).symm
    rw [upd_ne bc, upd_ne bP, e]
  refine ⟨stays, fun p hp => ?_⟩
  have eL : (ps ++ #[rawInt pos.line, rawInt pos.col, .ref c]).toList = ps.toList ++ [rawInt pos.line, rawInt pos.col, .ref c] := by simp
  obtain ⟨ps', a1, a2, a3⟩ := hT p hp
  by_cases hb : p.1 = P
  · rw [hu p hp hb, hb]
    have there : (upd (upd H P (.tbl (ps ++ #[rawInt pos.line, rawInt pos.col, .ref c]))) c (LamX.CodeO c q)) P = some (.tbl (ps ++ #[rawInt pos.line, rawInt pos.col, .ref c])) := by
      rw [upd_ne (ne_of_none hP nC)]
      exact upd_same
    have threes : TriplesOk (ps ++ #[rawInt pos.line, rawInt pos.col, .ref c]).toList := eL ▸ PySem.TriplesOk_snoc _ _ _ _ ht
    refine ⟨_, there, threes, fun p' cv hcv => ?_⟩
    rw [eL] at hcv
    rcases LamX.among_app _ ht hcv with z | z
    · obtain ⟨c0, e1, e2⟩ := ha p' cv z
      exact ⟨c0, e1, stays _ _ e2 LamX.codeO_ne⟩
    · exact ⟨c, z, upd_same⟩
  · refine ⟨ps', by rw [upd_ne (ne_of_none a1 nC), upd_ne hb]; exact a1, a2, fun p' cv hcv => ?_⟩
    obtain ⟨c0, e1, e2⟩ := a3 p' cv hcv
    exact ⟨c0, e1, stays _ _ e2 LamX.codeO_ne⟩
/-- what a lambda's text does, in the context of its maker -/
structure LamOk (X : Cx) (k : Nat) (pr : Arguments) (bd : Expr) (sc : Scope) (t : XK → TE) : Prop where
  L : LamX.LamS X.env.scope sc
  hb : ∀ (q : Str) (cl : List (Str × Addr)) (nm cv ctx : Value), bindArgs (PySem.W.kla_fn "<lambda>" q pr bd sc cl nm cv ctx) ⟨[], []⟩ = pure []
  hbd : ∀ (E : XK) (A : Around) (out : List Env) (s : Shared) (H : Hp) (fl cd : Addr), Room k (A.deeper (LamX.lamEnv X sc s.heap.objs.size fl cd)) → PE (LamX.lamCx X A out s H E sc fl cd) bd (t E)
/-- at fl: a lambda made here that does t -/
def IsLam (X : Cx) (k : Nat) (H : Hp) (fl : Addr) (t : XK → TE) : Prop := ∃ (pr : Arguments) (bd : Expr) (sc : Scope) (nm : Value) (cd : Addr) (ctx : Value), LamOk X k pr bd sc t ∧ H fl = some (LamO fl (lamOb X pr bd sc nm cd ctx)) ∧ H cd = some (LamX.CodeO cd (lamQ X))
theorem IsLam.ext {k : Nat} {H H' : Hp} {fl : Addr} {t : XK → TE} (h : IsLam X k H fl t) (e : LamX.ExtN H H') : IsLam X k H' fl t := by
  obtain ⟨pr, bd, sc, nm, cd, ctx, h1, h2, h3⟩ := h
  exact ⟨pr, bd, sc, nm, cd, ctx, h1, e _ _ h2 lamO_ne, e _ _ h3 LamX.codeO_ne⟩
/-- the lambda as a value -/
def tLamV (X : Cx) (T : List (Addr × Str)) (k : Nat) (t : XK → TE) : TE := fun _ H Q => LamX.Tabs T H ∧ ∀ (fl : Addr) (H1 : Hp), LamX.ExtN H H1 → LamX.Tabs T H1 → H fl = none → IsLam X k H1 fl t → Q (.ref fl) H1
theorem pe_lamV {T : List (Addr × Str)} {c P : Addr} {k : Nat} {pr : Arguments} {bd : Expr} {sc : Scope} {t : XK → TE} {lp : Pos} (O : LamOk X k pr bd sc t) (TB : LamX.TabB X.base X.mg c P)
    (hc : X.env.code = .ref c := by rfl) (hm : (P, lamQ X) ∈ T := by exact List.mem_cons_self) (hu : ∀ p ∈ T, p.1 = P → p.2 = lamQ X := by (intro p hp _; cases List.mem_singleton.mp hp; rfl)) (hd : defaultsOf pr X.env = ([], []) := by rfl) :
    PE X (.Lambda pr bd sc lp) (tLamV X T k t) := by
  constructor
  intro pins s σ H Q I ⟨hT, h⟩
  obtain ⟨ps, hP, ht, ha⟩ := hT _ hm
  have hfree := O.L.has I.ok
  have tabHere := show s.heap.get? P = some { cls := .none, data := .fields ps } from I.hok P _ hP
  have give : ∀ (fl cd : Addr) (nm ctx : Value) (H1 : Hp) (s1 : Shared), Inv X pins σ (upd H1 fl (LamO fl (lamOb X pr bd sc nm cd ctx))) s1 → LamX.ExtN H H1 → LamX.Tabs T H1 → H1 fl = none → H fl = none → H1 cd = some (LamX.CodeO cd (lamQ X)) → EP X pins σ Q (.ref fl) s1 := fun fl cd nm ctx H1 s1 I1 e1 T1 n1 n0 h1 => by
    have st : ∀ b o, H1 b = some o → upd H1 fl (LamO fl (lamOb X pr bd sc nm cd ctx)) b = some o := fun b o e => by rw [upd_ne (ne_of_none e n1), e]
    exact ⟨.ref fl, _, I1, rfl, h fl _ (e1.trans (.of st)) (T1.ext st) n0 ⟨pr, bd, sc, nm, cd, ctx, O, upd_same, st _ _ h1⟩⟩
  refine PySem.W.kla_eval hd ?_
  cases hca : codeAmong lp ps.toList with
  | none =>
    refine PySem.W.kla_makeFunction (mg := X.mg) (c := c) (P := P) (ps := ps) (closure_ok hfree) I.ok.glob (I.mod.glob.keeps I.bk) hc (TB.code.keeps I.bk) tabHere ht hca TB.gP (TB.bm.keeps I.bk) fun cd ctx h' tk hx hge hlt hrec htb => ?_
    obtain ⟨c2, oc, vs, t9, e2, hoc, hdc, hvc⟩ := hrec
    cases e2
    have nC : H cd = none := I.hok.fresh hge
    have grown := Nat.le_trans hge (Nat.le_of_lt hlt)
    have I1 := LamX.inv_table (t' := tk) (more := #[rawInt lp.line, rawInt lp.col, .ref cd]) (h' := h') I hP hx htb hge ⟨oc, vs, t9, hoc, hdc, hvc⟩
    obtain ⟨en, T1⟩ := tabs_put (pos := lp) hu hT hP ht ha nC
    refine give h'.objs.size cd ((X.mg "__name__").getD .none) ctx _ _ (I1.laid (t' := tk) (fun b o e => Heap.get?_push_of_some _ e) (Nat.le_refl _) (lamO_ok (Heap.get?_push_size _ rfl))) en T1 (I1.hok.fresh (Nat.le_refl _)) (I.hok.fresh grown) upd_same
  | some cv =>
    obtain ⟨cd, e, hco⟩ := ha lp cv hca
    subst e
    refine PySem.W.kla_makeFunctionHit (mg := X.mg) (c := c) (P := P) (ps := ps) (closure_ok hfree) I.ok.glob (I.mod.glob.keeps I.bk) hc (TB.code.keeps I.bk) tabHere ht hca (TB.bm.keeps I.bk) fun ctx h' tk hx hsz => ?_
    exact give h'.objs.size cd ((X.mg "__name__").getD .none) ctx H _ (I.laid (t' := tk) (fun b o e => Heap.get?_push_of_some _ (hx b o e)) hsz (lamO_ok (Heap.get?_push_size _ rfl))) (.refl H) hT (I.hok.fresh hsz) (I.hok.fresh hsz) hco
end

/-! ### a tracked lambda called by the def that got it, within a comprehension of its maker -/
section
variable {X : Cx}
theorem pe_actT {pins : List (Addr × Obj)} {σ : L2.St} {H : Hp} {s : Shared} {Ng : List Str} {qg : Str} {sg : Scope} {g fl cd : Addr} {cdg nm ctx : Value} {pr : Arguments} {bd : Expr} {sc : Scope} {k i : Nat} {a : Str} {pn : List (Addr × Obj)} {xe : Value → Shared → Prop} {W : WX} {t : XK → TE} {p1 p2 : Pos}
    (I : Inv X pins σ H s) (O : LamOk X k pr bd sc t) (tk : Takes ((gotCx X Ng qg sg g cdg s H).tr pn xe) W) (rm : Room (k + 1) (X.A.deeper (envOfC qg sg s.heap.objs.size g cdg)))
    (hN : Ng[i]? = some a) (hv : Vis sg a) (h1 : (a == ("__debug__" : Str)) = false := by decide) (h2 : (a == ("__classdict__" : Str)) = false := by decide) :
    PE ((gotCx X Ng qg sg g cdg s H).tr pn xe) (.Call (.Name a p1) [] [] p2)
      (fun τ G Q => τ[i]? = some (some (.ref fl)) ∧ G fl = some (LamO fl (lamOb X pr bd sc nm cd ctx)) ∧ G cd = some (LamX.CodeO cd (lamQ X)) ∧ t (WE W τ) σ G Q) := by
  constructor
  rintro pz sz τ G Q J ⟨hτ, hF, hC, ht⟩
  refine wpAny_Call_Name_kw (thn ((pe_var (X := (gotCx X Ng qg sg g cdg s H).tr pn xe) (pos := p1) (i := i) hN hv h1 h2).run pz sz τ G (fun v G' => v = .ref fl ∧ G' = G) J ⟨.ref fl, hτ, rfl, rfl⟩) ?_)
  rintro u s1 ⟨v1, G1, J1, rv, e1, e2⟩
  rw [e1] at rv
  rw [e2] at J1
  obtain rfl : u = Value.ref fl := rv
  have there := lamO_at J1.hok hF
  have body : codeAny (model X.prog X.w) (X.A.deeper (envOfC qg sg s.heap.objs.size g cdg)) (.call (.ref fl) ⟨[], []⟩) (CR (L2.CX X.prog X.w) (envOfC qg sg s.heap.objs.size g cdg :: X.stack) X.prog X.w G s1 Q (WE W τ)) s1 := by
    obtain ⟨⟨oc, vs, t9, c1, c2, c3⟩, _, _⟩ := J1.hok cd _ hC
    refine PySem.W.kla_callFunE rm.depth there rfl O.L.co O.L.gen rfl ⟨cd, oc, vs, t9, rfl, c1, c2, c3⟩ ?_
    rw [O.hb]
    refine wpAny_pure (wpAny_newFunctionEnv (fun y m => (O.L.own y m).2) (fun y m => nomatch m) (fun hp ns sb => ⟨J1.nolimit.fresh _ sb, ?_⟩) O.L.kind)
    have grew : ∀ b o, s1.heap.get? b = some o → hp.get? b = some o := fun b o e => sb.extBut b o (Nat.ne_of_lt (Heap.lt_size e)) (Heap.get?_push_of_some _ e)
    have J2 := LamX.lam_start2 (E := WE W τ) (f := fl) (c' := cd) (tk := s1.toks + ([] : List (Str × Value)).length) I O.L J1.env0 rm.hd (show Un (frs X.stack) [] H G s.heap s1.heap from J1.base) ns grew
    have ran := (O.hbd (WE W τ) _ _ s1 G fl cd (rm.deeper _)).run [] _ _ G Q J2 ht
    refine PySem.W.kla_codeExpr (wpAny_mono ran ?_ fun e s' hq => hq)
    rintro v s' ⟨v', G2, J3, rv, qv⟩
    exact ⟨v', G2, J3.os, J3.bare, J3.base, J3.hok, rv, qv⟩
  refine PySem.W.callWith_F0 ⟨_, _, _, _, there⟩ (wpAny_call (codeAny_mono body ?_))
  intro r s' hq
  match r with
  | .error e => exact passAt tk τ pz G s1 e s' J1 hq
  | .ok (.ret u) => exact J1.after hq
  | .ok .next => exact False.elim hq
  | .ok .brk => exact False.elim hq
  | .ok .cont => exact False.elim hq
end
/-! ### a tracked lambda handed to a def together with one more thing, outside a try -/
section
variable {X : Cx}
/-- a def of the text that is handed a lambda and a thing -/
structure GotTwo (K : PySem.W.Frag) (mg : Str → Option Value) (x a b : Str) (st : Stmt) (Ng : List Str) (g : Addr) (cdg : Value) : Prop where
  gm : mg x = some (.ref g)
  kp : PySem.W.keepIn K (.ref g) = true
  fn : ∃ (oc : Value) (od : Option Addr) (dV kV doc pm ct : Value) (an : Option Addr) (osl : Array (Option Value)),
    K.lookup g = some ⟨oc, od, .func (PySem.W.fnOf x x (defArgs st) (defBody st) (defScope st) dV kV doc pm an cdg ct), osl⟩ ∧ L2.Binds K (PySem.W.fnOf x x (defArgs st) (defBody st) (defScope st) dV kV doc pm an cdg ct) [a, b] []
  cd : PySem.W.codeIn K cdg x = true
  sc : FnScope Ng [a, b] (defScope st)
  n0 : Ng[0]? = some a
  vs : Vis (defScope st) a
/-- the def calls what it got; TT: what it makes of the lambda's reading and of the thing -/
def GivesTwo (X : Cx) (Ng : List Str) (x : Str) (sg : Scope) (g : Addr) (cdg : Value) (bg : List Stmt) (a : Str) (k : Nat) (TT : Addr → Addr → V → (Hp → VK → Prop) → Hp → VK → Prop) : Prop :=
  ∀ (fl cd : Addr) (ob : Obj) (v : V) (s : Shared) (H : Hp) (Q : VK) (tl : Hp → VK → Prop),
    (∀ p1 p2 : Pos, PE (gotCx X Ng x sg g cdg s H).nox (.Call (.Name a p1) [] [] p2) (fun τ G Q => τ[0]? = some (some (.ref fl)) ∧ G fl = some (LamO fl ob) ∧ G cd = some (LamX.CodeO cd (lamQ X)) ∧ tl G Q)) →
    H fl = some (LamO fl ob) → H cd = some (LamX.CodeO cd (lamQ X)) → Room k (X.A.deeper (envOfC x sg s.heap.objs.size g cdg)) → TT fl cd v tl H Q →
    ∃ t, PSs (gotCx X Ng x sg g cdg s H).nox bg t ∧ t { nx := fun _ H' => Q .non H', rt := Q } (L2.start Ng [.ref fl, v]) H
theorem pe_lamTwo {TT : Addr → Addr → V → (Hp → VK → Prop) → Hp → VK → Prop} {x a b : Str} {g : Addr} {k j : Nat} {st : Stmt} {cdg : Value} {Ng : List Str} {e : Expr} {es : List Expr} {tA : TA} {p pos : Pos}
    (G : GotTwo X.K X.mg x a b st Ng g cdg) (hG : GivesTwo X Ng x (defScope st) g cdg (defBody st) a (k + 1) TT) (rm : Room j X.A) (ha : PA X (e :: es) tA)
    (hle : k + 2 ≤ j := by decide) (hg : Gl X x := by rfl) (h0 : (x == ("__debug__" : Str)) = false := by decide) (h1 : (a == ("__debug__" : Str)) = false := by decide) (h2 : (a == ("__classdict__" : Str)) = false := by decide)
    (he : starEach (e :: es) X.env = (false, eval e X.env) :: starEach es X.env := by rfl) (hpl : (backTo pos (starEach es X.env)).any (·.1) = false := by rfl) :
    PE X (.Call (.Name x p) (e :: es) [] pos) (fun σ H Q => tA σ H fun vs H1 => ∃ (fl : Addr) (v : V) (t : TE), vs = [.ref fl, v] ∧ IsLam X k H1 fl (fun _ => t) ∧ ∀ cd, TT fl cd v (t σ) H1 Q) := by
  constructor
  intro pins s σ H Q I h
  obtain ⟨oc, od, dV, kV, doc, pm, ct, an, osl, lk, bnd⟩ := G.fn
  refine wpAny_Call_Name_kw (ld_glob I hg G.gm ?_ h0)
  refine PySem.W.callWith_K (h₀ := X.base) I.ok.mod.kin G.kp (thn (ha.run pos pins s σ H _ I h) ?_) he hpl
  rintro us s1 ⟨vs, H1, I1, r, fl, v, t, rfl, ⟨pr, bd, sc, nm, cd, ctx, O, hF, hC⟩, hh⟩
  refine ⟨I1.kIn, ?_⟩
  cases r with
  | cons r1 r' =>
  cases r' with
  | cons r2 r'' =>
  cases r''
  rename_i u1 u2
  refine wpAny_call (codeAny_mono (LamX.run_ofS (CX := C8.CX0) (k := k + 1) (us := [u1, u2]) (vs := [.ref fl, v]) (Q := Q) (E := C8.E0) lk G.cd G.sc (rm.mono hle) I1.env0 (bnd s1 [u1, u2] I1.kIn rfl) (.cons r1 (.cons r2 .nil)) rfl fun rm' => ?_) ?_)
  · obtain ⟨t', ps', q'⟩ := hG fl cd _ v s1 H1 Q (t σ) (fun p1 p2 => pe_actT (i := 0) (W := fun _ _ _ _ => False) (pn := []) (xe := fun _ _ => False) I1 O LamX.takes0 rm' G.n0 G.vs h1 h2) hF hC rm' (hh cd)
    exact ⟨t', ps'.nox, q'⟩
  · intro r z2 hq
    match r with
    | .error e => exact False.elim (show False from hq)
    | .ok (.ret u) => exact I1.after hq
    | .ok .next => exact False.elim hq
    | .ok .brk => exact False.elim hq
    | .ok .cont => exact False.elim hq
end

end E1

namespace E1
open PySem PySem.Spec PyProof.Rows L2

theorem DpAll.snoc {K : PySem.W.Frag} {H : Hp} {x : V} {d : PyData} (hx : Dp K H x d) : ∀ {vs : List V} {ds : List PyData}, DpAll K H vs ds → DpAll K H (vs ++ [x]) (ds ++ [d])
  | [], [], _ => .cons hx .nil
  | _ :: _, _ :: _, h => by
    cases h with
    | cons a r => exact .cons a (DpAll.snoc hx r)
  | [], _ :: _, h => by cases h
  | _ :: _, [], h => by cases h
/-- rows with a 7 at each end -/
def l7D (ss : List (List Rat)) : List PyData := ss.map fun s => .list (s.map frD ++ [.int 7])
theorem all_lay : ∀ (ds es : List PyData), PyData.canLayAll0 (ds ++ es) = (PyData.canLayAll0 ds && PyData.canLayAll0 es)
  | [], es => by simp [PyData.canLayAll0]
  | d :: ds, es => by
    rw [List.cons_append, PyData.canLayAll0, PyData.canLayAll0, all_lay ds es, Bool.and_assoc]
theorem all_deep : ∀ (ds es : List PyData) (n : Nat), PyData.depthAll ds ≤ n → PyData.depthAll es ≤ n → PyData.depthAll (ds ++ es) ≤ n
  | [], es, n, _, h => h
  | d :: ds, es, n, h1, h2 => by
    rw [List.cons_append]
    simp only [PyData.depthAll] at h1 ⊢
    have := all_deep ds es n (by omega) h2
    omega
theorem l7_lay : ∀ ss : List (List Rat), PyData.canLayAll0 (l7D ss) = true
  | [] => rfl
  | s :: ss => by
    have i := l7_lay ss
    unfold l7D at i ⊢
    rw [List.map_cons, PyData.canLayAll0, i, Bool.and_true]
    simp only [PyData.canLay0]
    rw [all_lay, frDs_lay]
    rfl
theorem l7_deep : ∀ ss : List (List Rat), PyData.depthAll (l7D ss) ≤ 8
  | [] => by simp [l7D, PyData.depthAll]
  | s :: ss => by
    have i := l7_deep ss
    have j := frDs_deep s
    have k := all_deep (s.map frD) [.int 7] 6 (by omega) (by simp [PyData.depthAll, PyData.depth])
    unfold l7D at *
    simp only [List.map_cons, PyData.depthAll, PyData.depth]
    omega
theorem l7_shaped (ss : List (List Rat)) : SeqAt.shaped (.list (l7D ss)) = true := by
  have h1 := l7_deep ss
  have h2 : PyData.depth (.list (l7D ss)) ≤ 64 := by simp only [PyData.depth]; omega
  show (PyData.canLay0 (.list (l7D ss)) && decide (PyData.depth (.list (l7D ss)) ≤ 64)) = true
  rw [Bool.and_eq_true]
  exact ⟨by simp only [PyData.canLay0]; exact l7_lay ss, decide_eq_true h2⟩
theorem l7_eqv (ss : List (List Rat)) : PyData.eqv (.list (l7D ss)) (.list (l7D ss)) = true := SeqAt.eqv_refl _ (SeqAt.canLay_of_shaped (l7_shaped ss))
/-- the rows told, of which the first k have a 7 at their ends -/
structure Sev (K : PySem.W.Frag) (G : Hp) (p : Addr) (bs : List Addr) (ss : List (List Rat)) (k : Nat) : Prop where
  top : G p = some (.lst (bs.map V.ref))
  len : bs.length = ss.length
  row : ∀ (i : Nat) (b : Addr) (s : List Rat), bs[i]? = some b → ss[i]? = some s → ∃ vs, G b = some (.lst (vs ++ if i < k then [V.int 7] else [])) ∧ FrsK K G vs s
theorem Sev.same {K : PySem.W.Frag} {G G' : Hp} {p : Addr} {bs : List Addr} {ss : List (List Rat)} {k : Nat} (h : Sev K G p bs ss k) (e : Same G G') : Sev K G' p bs ss k :=
  ⟨e _ _ h.top, h.len, fun i b s x y => let ⟨vs, h1, h2⟩ := h.row i b s x y; ⟨vs, e _ _ h1, h2.same e⟩⟩
theorem Sev.dp0 {K : PySem.W.Frag} {G : Hp} {p : Addr} {bs : List Addr} {ss : List (List Rat)} (h : Sev K G p bs ss 0) : DpAll K G (bs.map V.ref) (llD ss) := by
  obtain ⟨top, len, row⟩ := h
  clear top
  induction bs generalizing ss with
  | nil =>
    cases ss with
    | nil => exact .nil
    | cons s ss => cases len
  | cons b bs ih =>
    cases ss with
    | nil => cases len
    | cons s ss =>
      obtain ⟨vs, h1, h2⟩ := row 0 b s rfl rfl
      rw [if_neg (Nat.lt_irrefl 0), List.append_nil] at h1
      exact .cons (.lst (SqL.of h1) h2.dp) (ih (Nat.succ.inj len) fun i b s x y => by
        obtain ⟨vs, h1, h2⟩ := row (i + 1) b s x y
        exact ⟨vs, by rw [if_neg (Nat.not_lt_zero _)] at h1 ⊢; exact h1, h2⟩)
theorem Sev.dp7 {K : PySem.W.Frag} {G : Hp} {p : Addr} {bs : List Addr} {ss : List (List Rat)} {k : Nat} (h : Sev K G p bs ss k) (hk : bs.length ≤ k) : DpAll K G (bs.map V.ref) (l7D ss) := by
  obtain ⟨top, len, row⟩ := h
  clear top
  induction bs generalizing ss k with
  | nil =>
    cases ss with
    | nil => exact .nil
    | cons s ss => cases len
  | cons b bs ih =>
    cases ss with
    | nil => cases len
    | cons s ss =>
      rw [List.length_cons] at hk
      obtain ⟨vs, h1, h2⟩ := row 0 b s rfl rfl
      rw [if_pos (by omega)] at h1
      exact .cons (.lst (SqL.of h1) (DpAll.snoc (.int 7) h2.dp)) (ih (k := k - 1) (by omega) (Nat.succ.inj len) fun i b s x y => by
        have li := (List.getElem?_eq_some_iff.mp x).1
        obtain ⟨vs, h1, h2⟩ := row (i + 1) b s x y
        exact ⟨vs, by rw [if_pos (by omega)] at h1 ⊢; exact h1, h2⟩)
/-- one row more -/
theorem Sev.step {K : PySem.W.Frag} {G : Hp} {p b : Addr} {bs : List Addr} {ss : List (List Rat)} {k : Nat} (h : Sev K G p bs ss k) (nd : bs.Nodup) (off : ∀ b ∈ bs, b ≠ p) (hb : bs[k]? = some b) : ∃ vs, G b = some (.lst vs) ∧ (∃ s, ss[k]? = some s ∧ vs.length = s.length) ∧ Sev K (upd G b (.lst (vs ++ [.int 7]))) p bs ss (k + 1) := by
  have lk := (List.getElem?_eq_some_iff.mp hb).1
  have hs : ss[k]? = some (ss[k]'(by rw [← h.len]; exact lk)) := List.getElem?_eq_getElem _
  obtain ⟨vs, e, f⟩ := h.row k b _ hb hs
  rw [if_neg (Nat.lt_irrefl k), List.append_nil] at e
  refine ⟨vs, e, ⟨_, hs, f.1⟩, ?_, h.len, fun i c s x y => ?_⟩
  · rw [upd_ne (Ne.symm (off b (List.mem_of_getElem? hb)))]
    exact h.top
  · obtain ⟨us, e2, f2⟩ := h.row i c s x y
    by_cases ci : i = k
    · subst ci
      rw [hb] at x
      cases x
      rw [hs] at y
      cases y
      refine ⟨vs, ?_, f.but SameBut.upd e⟩
      rw [if_pos (Nat.lt_succ_self _)]
      exact upd_same
    · have nb : c ≠ b := fun z => by
        rw [z] at x
        exact ci ((List.getElem?_inj (List.getElem?_eq_some_iff.mp x).1 nd).mp (x.trans hb.symm))
      refine ⟨us, ?_, f2.but SameBut.upd e⟩
      rw [upd_ne nb, e2]
      by_cases c2 : i < k
      · rw [if_pos c2, if_pos (by omega)]
      · rw [if_neg c2, if_neg (by omega)]
theorem Sev.add {K : PySem.W.Frag} {G G2 : Hp} {D l : Addr} {bs : List Addr} {ss : List (List Rat)} {s : List Rat} {vs : List V} (h : Sev K G D bs ss 100) (off : ∀ b ∈ bs, b ≠ D) (e : Same G G2) (hl : G2 l = some (.lst (vs ++ [.int 7]))) (f : FrsK K G2 vs s) (nl : l ≠ D) (small : bs.length < 100) :
    Sev K (upd G2 D (.lst (bs.map V.ref ++ [.ref l]))) D (bs ++ [l]) (ss ++ [s]) 100 := by
  have e1 := e _ _ h.top
  refine ⟨by rw [upd_same, List.map_append]; rfl, by rw [List.length_append, List.length_append, h.len]; rfl, fun i b r hb hr => ?_⟩
  by_cases c : i < bs.length
  · rw [List.getElem?_append_left c] at hb
    rw [List.getElem?_append_left (by rw [← h.len]; exact c)] at hr
    obtain ⟨us, g1, g2⟩ := h.row i b r hb hr
    refine ⟨us, ?_, (g2.same e).but SameBut.upd e1⟩
    rw [upd_ne (off b (List.mem_of_getElem? hb))]
    exact e _ _ g1
  · rw [List.getElem?_append_right (by omega)] at hb
    rw [List.getElem?_append_right (by rw [← h.len]; omega)] at hr
    have z : i - bs.length = 0 := by
      have := (List.getElem?_eq_some_iff.mp hb).1
      simp at this
      exact this
    rw [z] at hb
    rw [← h.len, z] at hr
    cases hb
    cases hr
    refine ⟨vs, ?_, f.but SameBut.upd e1⟩
    rw [upd_ne nl, hl, if_pos (by omega)]
theorem OwnM.sev {K : PySem.W.Frag} {H0 H : Hp} {p : Addr} {ss : List (List Rat)} (h : OwnM K H0 H p ss) : ∃ bs, bs.Nodup ∧ (∀ b ∈ bs, b ≠ p ∧ H0 b = none) ∧ Sev K H p bs ss 0 := by
  obtain ⟨bs, h1, h2, h3, h4, h5⟩ := h.ex
  refine ⟨bs, h3, h4, h1, h2, fun i b s x y => ?_⟩
  obtain ⟨vs, e, f⟩ := h5 i b s x y
  exact ⟨vs, by rw [if_neg (Nat.not_lt_zero _), List.append_nil]; exact e, f⟩
theorem Sev.pl {K : PySem.W.Frag} {G : Hp} {p : Addr} {bs : List Addr} {ss : List (List Rat)} (h : Sev K G p bs ss 0) (l1 : ss.length ≤ 900) (l2 : ∀ s ∈ ss, s.length ≤ 900) : PlAt K 3 G (.ref p) := by
  refine .inr ⟨p, _, rfl, h.top, by rw [List.length_map, h.len]; exact l1, fun x hx => ?_⟩
  obtain ⟨b, hb, rfl⟩ := List.mem_map.mp hx
  obtain ⟨i, hi⟩ := List.mem_iff_getElem?.mp hb
  have li := (List.getElem?_eq_some_iff.mp hi).1
  have hs : ss[i]? = some (ss[i]'(by rw [← h.len]; exact li)) := List.getElem?_eq_getElem _
  obtain ⟨vs, e, f⟩ := h.row i b _ hi hs
  rw [if_neg (Nat.not_lt_zero _), List.append_nil] at e
  refine .inr ⟨b, vs, rfl, e, by rw [f.1]; exact l2 _ (List.mem_of_getElem? hs), fun y hy => ?_⟩
  obtain ⟨j, hj⟩ := List.mem_iff_getElem?.mp hy
  obtain ⟨q, r, rfl, _, fq⟩ := f.get hj
  exact .inl ⟨q, r.num, r.den, rfl, fq⟩
def TTw (K : PySem.W.Frag) (fl cd : Addr) (v : V) (tl : Hp → VK → Prop) (H : Hp) (Q : VK) : Prop := ∃ (d : Addr) (us : List V) (ss : List (List Rat)), v = .ref d ∧ H d = some (.lst us) ∧ SeL H us ss ∧ ss.length ≤ 10 ∧ (∀ s ∈ ss, s.length ≤ 10) ∧
  (∀ G Q', Same H G → (∀ p G', G p = none → Same G G' → OwnM K G G' p ss → Q' (.ref p) G') → tl G Q') ∧ ∀ H', Same H H' → Q (.bl true) H'
section
variable {P : Program} {w : World} {K : PySem.W.Frag} {mg : Str → Option Value} {base : Heap}
theorem sc__law_twice : FnScope ["_law_ask", "_law_due", "_law_turn", "_law_told", "_law_row"] ["_law_ask", "_law_due"] (defScope s__law_twice) := ⟨rfl, rfl, rfl, by decide +kernel, rfl, by decide +kernel, by decide +kernel⟩
theorem gives_twice {X : Cx} {g : Addr} {cdg : Value} {k : Nat} (hk : 4 ≤ k) (z : Zs X.mg) (c__law_plain : Cal X.prog X.w X.K X.mg X.base 4 "_law_plain" ["_law_told"] (spPl X.K 3)) : GivesTwo X ["_law_ask", "_law_due", "_law_turn", "_law_told", "_law_row"] "_law_twice" (defScope s__law_twice) g cdg (defBody s__law_twice) "_law_ask" k (TTw X.K) := by
  intro fl cd ob v s H Q tl act hF hC hr0 h
  have hr : Room 4 (X.A.deeper (envOfC "_law_twice" (defScope s__law_twice) s.heap.objs.size g cdg)) := hr0.mono hk
  obtain ⟨d, us, ss, rfl, hd, hs, l10, w10, ht, q⟩ := h
  refine ⟨_, (pss_cons (ps_for PassesOwn.never rfl (pi_range1 (by rfl) z.range (pa_cons pe_int pa_nil)) (pg_name (i := 2) sc__law_twice.nd rfl (.inl rfl)) (pss_cons (ps_set (i := 3) sc__law_twice.nd rfl (.inl rfl) (act _ _))
      (pss_cons (ps_if (PW.pt (pw_or (pt_not (pt_val (pe_callB call_isi (by rfl) z.isinstance (by decide +kernel) (pa_cons (pv 3) (pa_cons (pe_bltn (v := .ty "list") (by rfl) z.list (by decide +kernel) rfl) pa_nil))))) (pw_or (pt_cmpR (op_neD hr.units) (pv 3) (pv 1) (nomark _)) (pw_or1 (pt_not (pt_val (pe_cal c__law_plain hr (pa_cons (pv 3) pa_nil)))))))) (pss_one (ps_ret pe_bl)) pss_nil)
      (pss_cons (ps_for PassesOwn.never rfl (pi_list (pv 3)) (pg_name (i := 4) sc__law_twice.nd rfl (.inl rfl)) (pss_one (ps_expr (pe_bm PySem.F.plainAttrs_list PySem.F.slot_list_append PySem.F.type_list_append mt_append (pv 4) (pa_cons pe_int pa_nil)))))
      (pss_cons (ps_if (pt_cmpR (op_neD hr.units) (pv 3) (pe_lc (own := [("_law_row", 4)]) (g := gName 4) (tt := tYes) (te := (tOp rCat (tVar 4) (tLst (tCons (tC (.int 7)) tNil)))) (by rfl) sc__law_twice.nd (pi_list (pv 1)) (blkOk_by (own := [("_law_row", 4)]) (N := ["_law_ask", "_law_due", "_law_turn", "_law_told", "_law_row"]) (sc := defScope s__law_twice) (by decide +kernel)) (fun _ _ _ _ _ => by exact (pg_name (i := 4) sc__law_twice.nd rfl (.inl rfl))) (fun _ _ _ _ _ => by exact pts_nil) (fun _ _ _ _ _ => by exact (pe_op op_cat (pv 4) (pe_lst (pa_cons pe_int pa_nil))))) (nomark _)) (pss_one (ps_ret pe_bl)) pss_nil)
      (pss_one (ps_expr (pe_bm0 PySem.F.plainAttrs_list PySem.F.slot_list_clear PySem.F.type_list_clear mt_clear (pv 3)))))))))
      (pss_one (ps_ret pe_bl))), ?_⟩
  refine ⟨2, rfl, by decide, by decide, for_range (n := 2) (fun i σ H' => Same H H' ∧ ∃ y2 y3 y4 : Option V, σ = [some (.ref fl), some (.ref d), y2, y3, y4]) ⟨Same.refl _, none, none, none, rfl⟩ (fun i σ G hi hP => ?_) (fun σ G hP => ?_)⟩
  · obtain ⟨sG, y2, y3, y4, rfl⟩ := hP
    refine ⟨rfl, sG _ _ hF, sG _ _ hC, ht G _ sG fun p G1 hp s1 om => ?_⟩
    have S1 := sG.trans s1
    obtain ⟨bs, nd, off, sv⟩ := om.sev
    have lb := sv.len
    have hs1 := hs.same S1
    refine ⟨_, rfl, _, .ty "list", _, _, true, rfl, .ty _, .base (.lst sv.top), kit_ty (by decide +kernel), _, rfl, iteF ?_⟩
    refine ⟨_, rfl, _, rfl, .list (llD ss), .list (llD ss), .lst (SqL.of sv.top) sv.dp0, .lst (SqL.of (S1 _ _ hd)) hs1.dpAll, ll_shaped _, ll_shaped _, _, rfl, ?_⟩
    rw [ll_eqv]
    refine iteF ?_
    refine ⟨_, rfl, .ref p, rfl, sv.pl (by omega) (fun s hs => by have := w10 s hs; omega), fun G2 s2 => ⟨_, rfl, iteF ?_⟩⟩
    have sv2 := sv.same s2
    have S2 := S1.trans s2
    refine ⟨_, rfl, p, rfl, ⟨_, SqL.of sv2.top⟩, for_list (K := X.K) (a := p) (xs := bs.map V.ref) (fun i σ G3 => Same H G3 ∧ Sev X.K G3 p bs ss i ∧ ∃ y2 y4 : Option V, σ = [some (.ref fl), some (.ref d), y2, some (.ref p), y4]) ⟨S2, sv2, _, _, rfl⟩ (fun i σ G3 _ hP => SqL.of hP.2.1.top) (fun i x σ G3 hx hP => ?_) (fun σ G3 hP => ?_)⟩
    · obtain ⟨S3, sv3, y2, y4, rfl⟩ := hP
      rw [List.getElem?_map] at hx
      obtain ⟨b, hb, rfl⟩ := Option.map_eq_some_iff.mp hx
      have mb := List.mem_of_getElem? hb
      obtain ⟨vs, e9, ⟨s9, es9, l9⟩, sv9⟩ := sv3.step nd (fun b hb => (off b hb).1) hb
      have w9 := w10 s9 (List.mem_of_getElem? es9)
      refine ⟨_, rfl, .inl ⟨rfl, _, SqL.of e9⟩, b, vs, .int 7, rfl, rfl, e9, small1000 (by omega), fun c o e => ?_, sv9, _, _, rfl⟩
      rw [upd_ne (ne_of_none e (sG.free (off b mb).2))]
      exact S3 _ _ e
    · obtain ⟨S3, sv3, y2, y4, rfl⟩ := hP
      rw [List.length_map] at sv3
      have lu := hs.1
      refine ⟨_, rfl, _, rfl, d, rfl, ⟨_, SqL.of (S3 _ _ hd)⟩, fun D hD => lc_list (K := X.K) (a := d) (xs := us) (fun i Y => Same G3 Y ∧ ∃ cs, Sev X.K Y D cs (ss.take i) 100 ∧ ∀ b ∈ cs, b ≠ D) ⟨same_new hD, [], ⟨upd_same, rfl, fun i b s e => by cases e⟩, fun b hb => absurd hb List.not_mem_nil⟩ (fun i Y _ hP => SqL.of (hP.1 _ _ (S3 _ _ hd))) (fun i x Y hx hP => ?_) (fun Y hP => ?_)⟩
      · obtain ⟨sY, cs, svY, offY⟩ := hP
        obtain ⟨b, r, rfl, hr2, fb⟩ := hs.get hx
        have li := (List.getElem?_eq_some_iff.mp hr2).1
        have w9 := w10 r (List.mem_of_getElem? hr2)
        obtain ⟨rv, hb, lv, fv⟩ := ((fb.same S3).same sY).len
        have lc9 := svY.len
        rw [List.length_take] at lc9
        refine ⟨rfl, _, rfl, (by show 1 ≤ sizeLine; decide), fun l7 h7 => ?_⟩
        have s7 := same_new (o := .lst [.int 7]) h7
        refine ⟨b, l7, rv, [.int 7], rfl, rfl, s7 _ _ hb, upd_same, Nat.le_trans (show rv.length + 1 ≤ 1000 by omega) (by decide), fun l8 h8 => ?_⟩
        have s8 := same_new (o := .lst (rv ++ [.int 7])) h8
        have T8 := s7.trans s8
        have top8 := T8 _ _ svY.top
        have n8 : l8 ≠ D := fun e => by
          rw [e, s7 _ _ svY.top] at h8
          cases h8
        have fk : FrsK X.K Y rv r := ⟨FrsAt.len fv, fun i q hq => let ⟨p, h1, h2⟩ := FrsAt.at fv hq; ⟨p, h1, SqT.of h2⟩⟩
        have sv8 := svY.add offY T8 upd_same (fk.same T8) n8 (by omega)
        refine ⟨_, top8, by rw [List.length_map]; exact small1000 (by omega), fun c o e => ?_, cs ++ [l8], ?_, fun c hc => ?_⟩
        · rw [upd_ne (ne_of_none e hD)]
          exact T8 _ _ (sY _ _ e)
        · rw [show ss.take (i + 1) = ss.take i ++ [r] by rw [List.take_succ, hr2]; rfl]
          exact sv8
        · rcases List.mem_append.mp hc with h | h
          · exact offY c h
          · rw [List.mem_singleton.mp h]
            exact n8
      · obtain ⟨sY, cs, svY, offY⟩ := hP
        rw [List.take_of_length_le (by omega)] at svY
        have svp := sv3.same sY
        have lc9 := svY.len
        refine ⟨.list (l7D ss), .list (l7D ss), .lst (SqL.of svp.top) (svp.dp7 (Nat.le_refl _)), .lst (SqL.of svY.top) (svY.dp7 (by omega)), l7_shaped _, l7_shaped _, _, rfl, ?_⟩
        rw [l7_eqv]
        refine iteF ?_
        refine ⟨_, rfl, .inl ⟨rfl, _, SqL.of svp.top⟩, p, _, rfl, rfl, svp.top, fun c o e => ?_, _, _, _, rfl⟩
        rw [upd_ne (ne_of_none e (sG.free hp))]
        exact sY _ _ (S3 _ _ e)
  · obtain ⟨sG, y2, y3, y4, rfl⟩ := hP
    exact q _ sG
end
end E1

namespace E1
open PySem PySem.Spec PyProof.Rows L2

/-- a def of the text with its code object -/
structure FunC (K : PySem.W.Frag) (x : Str) (st : Stmt) (f : Addr) (fd : FuncData) (c : Addr) : Prop where
  ex : ∃ (oc : Value) (od : Option Addr) (kV doc pm : Value) (an : Option Addr) (ct : Value) (osl : Array (Option Value)),
    fd = PySem.W.fnOf x x (defArgs st) (defBody st) (defScope st) .none kV doc pm an (.ref c) ct ∧ K.lookup f = some ⟨oc, od, .func fd, osl⟩ ∧ PySem.W.codeIn K (.ref c) x = true
theorem FunC.ok {P : Program} {w : World} {K : PySem.W.Frag} {mg : Str → Option Value} {base : Heap} {x : Str} {st : Stmt} {f c : Addr} {fd : FuncData} {N ps : List Str} {k : Nat} {sp : Sp} (F : FunC K x st f fd c) (S : FnScope N ps (defScope st)) (len : ∀ vs H Q E, sp vs H Q E → vs.length = ps.length)
    (hb : ∀ (A : Around) (out : List Env) (s : Shared) (H : Hp) (vs : List V) (Q : VK) (E : XK), Room k (A.deeper (envOfC x (defScope st) s.heap.objs.size f (.ref c))) → sp vs H Q E →
      ∃ t, PSs (cxOf CX0 P w K mg base N x (defScope st) f (.ref c) A out s H E).nox (defBody st) t ∧ t { nx := fun _ H' => Q .non H', rt := Q } (start N vs) H) : FnOk P w K mg base CX0 (k + 1) f fd ps sp := by
  obtain ⟨oc, od, kV, doc, pm, an, ct, osl, rfl, lk, hcd⟩ := F.ex
  exact fn_of lk hcd S len fun A out s H vs Q E hr hsp => let ⟨t, h, q⟩ := hb A out s H vs Q E hr hsp; ⟨t, h.nox, q⟩
abbrev lawQ : Str := (envOfC "law" (defScope s_law) 0 0 .none).qual ++ "<lambda>"
abbrev byQ : Str := (envOfC "_law_by_one" (defScope s__law_by_one) 0 0 .none).qual ++ "<lambda>"
/-- all but the well and the tables stays -/
def ExtW (w : Addr) (H H' : Hp) : Prop := ∀ b o, H b = some o → b ≠ w → (∀ ps, o ≠ .tbl ps) → H' b = some o
theorem ExtW.but {w : Addr} {H H' : Hp} (h : SameBut w H H') : ExtW w H H' := fun b o e n _ => h b o n e
theorem ExtW.ext {w : Addr} {H H' : Hp} (h : LamX.ExtN H H') : ExtW w H H' := fun b o e _ t => h b o e t
theorem ExtW.trans {w : Addr} {H G X : Hp} (h : ExtW w H G) (g : ExtW w G X) : ExtW w H X := fun b o e n t => g b o (h b o e n t) n t
def spBy (T : List (Addr × Str)) : Sp := fun vs H Q _ => ∃ (w a : Addr) (c : Int) (us : List V) (A : List (List Rat)), vs = [.ref w, .ref a] ∧ WellAt H w c ∧ c ≤ 10000 ∧ H a = some (.lst us) ∧ SeL H us A ∧ Rec A ∧ SmM A ∧ LamX.Tabs T H ∧
  ∀ H', ExtW w H H' → LamX.Tabs T H' → WellAt H' w (c + 200) → Q (.bl true) H'
theorem PrsAt.ext {H H' : Hp} {vs : List V} {ps : List (Int × Int)} (h : PrsAt H vs ps) (e : LamX.ExtN H H') : PrsAt H' vs ps := by
  induction h with
  | nil => exact .nil
  | cons a _ ih => exact .cons (e _ _ a (fun _ z => nomatch z)) ih
theorem FrL.ext {H H' : Hp} {a : Addr} {qs : List Rat} (h : FrL H a qs) (e : LamX.ExtN H H') : FrL H' a qs := by
  obtain ⟨vs, h1, h2⟩ := h
  exact ⟨vs, e _ _ h1 (fun _ z => nomatch z), PrsAt.ext h2 e⟩
theorem tabs_but {T : List (Addr × Str)} {H H' : Hp} {w : Addr} {c : Int} (t : LamX.Tabs T H) (s : SameBut w H H') (hw : WellAt H w c) : LamX.Tabs T H' := fun p hp => by
  obtain ⟨ps, a1, a2, a3⟩ := t p hp
  obtain ⟨_, _, _, e, _⟩ := hw
  refine ⟨ps, s _ _ (ne_of a1 e (fun z => nomatch z)) a1, a2, fun q cv hc => ?_⟩
  obtain ⟨c, e1, e2⟩ := a3 q cv hc
  exact ⟨c, e1, s _ _ (ne_of e2 e (fun z => by unfold LamX.CodeO at z; cases z)) e2⟩
theorem WellAt.ext {H H' : Hp} {w : Addr} {c : Int} (h : WellAt H w c) (e : LamX.ExtN H H') : WellAt H' w c := by
  obtain ⟨x, y, z, h1, h2⟩ := h
  exact ⟨x, y, z, e _ _ h1 (fun _ z => nomatch z), h2⟩

theorem MatAt.ext {H H' : Hp} {a : Addr} {ss : List (List Rat)} (h : MatAt H a ss) (e : LamX.ExtN H H') : MatAt H' a ss := by
  obtain ⟨ws, h1, h2⟩ := h
  exact ⟨ws, e _ _ h1 (fun _ z => nomatch z), h2.1, fun i s q => let ⟨b, g1, g2⟩ := h2.2 i s q; ⟨b, g1, g2.ext e⟩⟩
theorem MatAt.well {H H' : Hp} {a w : Addr} {c : Int} {ss : List (List Rat)} (h : MatAt H a ss) (e : SameBut w H H') (hw : WellAt H w c) : MatAt H' a ss := by
  obtain ⟨ws, h1, h2⟩ := h
  exact ⟨ws, e _ _ (h2.nw h1 hw) h1, h2.well e hw⟩
theorem MatAt.dp {K : PySem.W.Frag} {H : Hp} {a : Addr} {ss : List (List Rat)} (h : MatAt H a ss) : Dp K H (.ref a) (.list (llD ss)) := by
  obtain ⟨ws, h1, h2⟩ := h
  exact .lst (SqL.of h1) h2.dpAll
theorem Fr.ext {H H' : Hp} {p : Addr} {q : Rat} (h : Fr H p q) (e : LamX.ExtN H H') : Fr H' p q := e _ _ h (fun _ z => nomatch z)
theorem tup_shaped (m n : Int) : SeqAt.shaped (.tuple [.int m, .int n]) = true := rfl
theorem tup_eqv (m n : Int) : PyData.eqv (.tuple [.int m, .int n]) (.tuple [.int m, .int n]) = true := SeqAt.eqv_refl _ (SeqAt.canLay_of_shaped rfl)
theorem bq_div {t b : Int} {n : Nat} {q : Rat} (hb : b ≠ 0) (e : Rat.divInt t b = q) (h1 : b.natAbs < 2 ^ n) (h2 : t.natAbs < 2 ^ n) : Bq n q := by
  have s : Sc b t.natAbs q := ⟨t, by rw [← e]; exact div_q hb, Nat.le_refl _⟩
  have d := Nat.le_of_dvd (by omega) (Int.natAbs_dvd_natAbs.mpr s.den)
  have n := s.num hb
  rw [Int.natAbs_natCast] at d
  exact ⟨Nat.lt_of_le_of_lt n h2, Nat.lt_of_le_of_lt d h1⟩
theorem dotZ_le {M N : Nat} : ∀ (xs ys : List Int), (∀ x ∈ xs, x.natAbs ≤ M) → (∀ y ∈ ys, y.natAbs ≤ N) → (dotZ xs ys).natAbs ≤ xs.length * (M * N)
  | [], ys, _, _ => by
    have : dotZ [] ys = 0 := by cases ys <;> rfl
    rw [this]
    exact Nat.zero_le _
  | x :: xs, [], _, _ => Nat.zero_le _
  | x :: xs, y :: ys, h1, h2 => by
    have i := dotZ_le xs ys (fun a ha => h1 a (List.mem_cons_of_mem _ ha)) fun a ha => h2 a (List.mem_cons_of_mem _ ha)
    have a1 := Nat.mul_le_mul (h1 x (List.mem_cons_self ..)) (h2 y (List.mem_cons_self ..))
    show (x * y + dotZ xs ys).natAbs ≤ _
    have a2 := Int.natAbs_add_le (x * y) (dotZ xs ys)
    rw [Int.natAbs_mul] at a2
    rw [List.length_cons, Nat.succ_mul]
    omega
theorem SmL.take {xs : List Rat} (h : SmL xs) (k : Nat) : SmL (xs.take k) := ⟨by rw [List.length_take]; have := h.1; omega, fun q hq => h.2 q (List.mem_of_mem_take hq)⟩
theorem dot_bq {xs ys : List Rat} (h1 : SmL xs) (h2 : SmL ys) : Bq 8010 (dotR xs ys) := by
  obtain ⟨n0, n9, eq⟩ := met_q h1 h2
  have z := dotZ_le (tZ xs) (tZ ys) (fun x hx => Nat.le_of_lt (h1.bits x hx)) fun y hy => Nat.le_of_lt (h2.bits y hy)
  rw [tZ_len] at z
  refine bq_div n0 eq (Nat.lt_of_lt_of_le n9 (Nat.pow_le_pow_right (by decide) (by decide))) (Nat.lt_of_le_of_lt z ?_)
  have a1 : xs.length * (2 ^ 4000 * 2 ^ 4000) ≤ 2 ^ 4 * (2 ^ 4000 * 2 ^ 4000) := Nat.mul_le_mul_right _ (by have := h1.1; omega)
  rw [← Nat.pow_add, ← Nat.pow_add] at a1
  exact Nat.lt_of_le_of_lt a1 (Nat.pow_lt_pow_right (by decide) (by decide))
theorem dotok_small {xs ys : List Rat} (h1 : SmL xs) (h2 : SmL ys) (hl : xs.length = ys.length) : DotOk xs ys 300 8010 := by
  have up4 : (2 : Nat) ^ 150 ≤ 2 ^ 4400 := Nat.pow_le_pow_right (by decide) (by decide)
  refine ⟨hl, h2.1, by decide, by decide, by decide, fun q hq => ⟨Nat.lt_of_lt_of_le (h1.2 q hq).1 up4, Nat.lt_of_lt_of_le (h1.2 q hq).2 up4⟩, fun q hq => ⟨Nat.lt_of_lt_of_le (h2.2 q hq).1 up4, Nat.lt_of_lt_of_le (h2.2 q hq).2 up4⟩, fun k a b ha hb => ?_, fun k _ => dot_bq (h1.take k) (h2.take k)⟩
  obtain ⟨a1, a2⟩ := h1.2 a (List.mem_of_getElem? ha)
  obtain ⟨b1, b2⟩ := h2.2 b (List.mem_of_getElem? hb)
  have m1 := Nat.mul_lt_mul'' a1 b1
  have m2 := Nat.mul_lt_mul'' a2 b2
  rw [← Nat.pow_add] at m1 m2
  rw [Int.natAbs_mul]
  exact ⟨m1, m2⟩
theorem Rec.sml {A : List (List Rat)} (h : Rec A) (s : SmM A) {r : List Rat} (hr : r ∈ A) : SmL r := ⟨(h.row hr).2.2, s r hr⟩
theorem turn_row {A : List (List Rat)} {c : Nat} {s : List Rat} (h : s ∈ turnR A c) : s.length = A.length := by
  unfold turnR at h
  obtain ⟨j, _, rfl⟩ := List.mem_map.mp h
  rw [List.length_map]
theorem turn_len (A : List (List Rat)) (c : Nat) : (turnR A c).length = c := by
  unfold turnR
  rw [List.length_map, List.length_range]
theorem FrL.pl {K : PySem.W.Frag} {H : Hp} {a : Addr} {qs : List Rat} (h : FrL H a qs) (l : qs.length ≤ 900) : PlAt K 3 H (.ref a) := by
  obtain ⟨vs, e, lv, f⟩ := h.len
  refine .inr ⟨a, vs, rfl, e, by omega, fun x hx => ?_⟩
  obtain ⟨j, hj⟩ := List.mem_iff_getElem?.mp hx
  obtain ⟨q, r, rfl, _, fq⟩ := FrsAt.get f hj
  exact .inl ⟨q, r.num, r.den, rfl, SqT.of fq⟩
/-- what _law_by_one holds -/
structure BagB (T : List (Addr × Str)) (H0 : Hp) (ww a Dh pb px pg : Addr) (A : List (List Rat)) (qb : Rat) (xs : List Rat) (c : Int) (G : Hp) : Prop where
  w : WellAt G ww c
  tb : LamX.Tabs T G
  ex : ExtW ww H0 G
  a : MatAt G a A
  h : MatAt G Dh A
  b : Fr G pb qb
  x : FrL G px xs
  g : FrL G pg xs
theorem BagB.ext {T : List (Addr × Str)} {H0 : Hp} {ww a Dh pb px pg : Addr} {A : List (List Rat)} {qb : Rat} {xs : List Rat} {c : Int} {G G' : Hp} (B : BagB T H0 ww a Dh pb px pg A qb xs c G) (e : LamX.ExtN G G') (tb : LamX.Tabs T G') : BagB T H0 ww a Dh pb px pg A qb xs c G' :=
  ⟨B.w.ext e, tb, B.ex.trans (ExtW.ext e), B.a.ext e, B.h.ext e, B.b.ext e, B.x.ext e, B.g.ext e⟩
theorem BagB.same {T : List (Addr × Str)} {H0 : Hp} {ww a Dh pb px pg : Addr} {A : List (List Rat)} {qb : Rat} {xs : List Rat} {c : Int} {G G' : Hp} (B : BagB T H0 ww a Dh pb px pg A qb xs c G) (s : Same G G') : BagB T H0 ww a Dh pb px pg A qb xs c G' := B.ext (LamX.ExtN.of s) (LamX.Tabs.ext B.tb s)
section
variable {P : Program} {w : World} {K : PySem.W.Frag} {mg : Str → Option Value} {base : Heap}
theorem sc__law_by_one : FnScope ["_law_well_here", "_law_one_here", "_law_rows", "_law_columns_here", "_law_xs", "_law_given", "_law_due", "_law_told", "_law_by", "_law_handed", "_law_row", "_law_k", "_law_place_here"] ["_law_well_here", "_law_one_here"] (defScope s__law_by_one) := ⟨rfl, rfl, rfl, by decide +kernel, rfl, by decide +kernel, by decide +kernel⟩
theorem ok_by {f c gS : Addr} {cdS : Value} {fd : FuncData} {T : List (Addr × Str)} {Pb : Addr} (F : FunC K "_law_by_one" s__law_by_one f fd c) (z : Zs mg) (TB : LamX.TabB base mg c Pb) (hm : (Pb, byQ) ∈ T) (hu : ∀ p ∈ T, p.1 = Pb → p.2 = byQ) (GT : GotTwo K mg "_law_twice" "_law_ask" "_law_due" s__law_twice ["_law_ask", "_law_due", "_law_turn", "_law_told", "_law_row"] gS cdS) (c__law_columns : Cal P w K mg base 1 "_law_columns" ["_law_matrix_here"] spCols) (c__law_draw : Cal P w K mg base 1 "_law_draw" ["_law_well_here", "_law_many"] spDraw) (c__law_place : Cal P w K mg base 3 "_law_place" ["_law_well_here", "_law_kind"] spPlc) (c_shape : Cal P w K mg base 7 "shape" ["matrix"] spShapeX) (c_mirrored : Cal P w K mg base 7 "mirrored" ["matrix"] (spMirr K)) (c__law_low : Cal P w K mg base 1 "_law_low" ["_law_top", "_law_bottom"] spLowP) (c_scaled : Cal P w K mg base 7 "scaled" ["matrix", "one"] (spScaled K)) (c_led : Cal P w K mg base 7 "led" ["matrix", "xs"] spLed) (c__law_dot : Cal P w K mg base 3 "_law_dot" ["_law_one_here", "_law_other"] (spLDot K)) (c__law_plain : Cal P w K mg base 4 "_law_plain" ["_law_told"] (spPl K 3)) : FnOk P w K mg base CX0 10 f fd ["_law_well_here", "_law_one_here"] (spBy T) := by
  refine F.ok sc__law_by_one (fun vs H Q E h => ?_) (fun A outer s H vs Q E hr h => ?_)
  · obtain ⟨ww, a, c', us, A, rfl, _⟩ := h
    rfl
  · obtain ⟨ww, a, c', us, A, rfl, hw, hc, ha, hs, rc, sm, hT, q⟩ := h
    refine ⟨_, (pss_cons (ps_par (i := 2) (j := 3) (by rfl) sc__law_by_one.nd rfl rfl (by decide) rfl rfl (pa_cons (pe_callB call_len_seq (by rfl) z.len PySem.boot_len (pa_cons (pv 1) pa_nil)) (pa_cons (pe_callB call_len_seq (by rfl) z.len PySem.boot_len (pa_cons (pe_cal c__law_columns hr (pa_cons (pv 1) pa_nil)) pa_nil)) pa_nil)) (by rfl))
      (pss_cons (ps_set (i := 9) sc__law_by_one.nd rfl (.inr rfl) (pe_lc (own := [("_law_row", 10)]) (g := gName 10) (tt := tYes) (te := (tCB (fun xs H Q => ∃ p ys, xs = [V.ref p] ∧ (SqL K H p ys ∨ SqT K H p ys) ∧ ∀ l, H l = none → Q (.ref l) (upd H l (.lst ys))) (tCons (tVar 10) tNil))) (by rfl) sc__law_by_one.nd (pi_list (pv 1)) (blkOk_by (own := [("_law_row", 10)]) (N := ["_law_well_here", "_law_one_here", "_law_rows", "_law_columns_here", "_law_xs", "_law_given", "_law_due", "_law_told", "_law_by", "_law_handed", "_law_row", "_law_k", "_law_place_here"]) (sc := defScope s__law_by_one) (by decide +kernel)) (fun _ _ _ _ _ => by exact (pg_name (i := 10) sc__law_by_one.nd rfl (.inl rfl))) (fun _ _ _ _ _ => by exact pts_nil) (fun _ _ _ _ _ => by exact (pe_callTy call_list_of (by rfl) z.list (by decide +kernel) (pa_cons (pv 10) pa_nil)))))
      (pss_cons (ps_set (i := 8) sc__law_by_one.nd rfl (.inr rfl) (pe_cal c__law_place hr (pa_cons (pv 0) (pa_cons (pe_cal c__law_draw hr (pa_cons (pv 0) (pa_cons pe_int pa_nil))) pa_nil))))
      (pss_cons (ps_set (i := 4) sc__law_by_one.nd rfl (.inr rfl) (pe_lc (own := [("_law_k", 11)]) (g := gName 11) (tt := tYes) (te := (tCall spPlc [] E0 (tCons (tVar 0) (tCons (tCall spDraw [] E0 (tCons (tVar 0) (tCons (tC (.int 2)) tNil))) tNil)))) (by rfl) sc__law_by_one.nd (pi_range1 (by rfl) z.range (pa_cons (pv 3) pa_nil)) (blkOk_by (own := [("_law_k", 11)]) (N := ["_law_well_here", "_law_one_here", "_law_rows", "_law_columns_here", "_law_xs", "_law_given", "_law_due", "_law_told", "_law_by", "_law_handed", "_law_row", "_law_k", "_law_place_here"]) (sc := defScope s__law_by_one) (by decide +kernel)) (fun _ _ _ _ _ => by exact (pg_name (i := 11) sc__law_by_one.nd rfl (.inl rfl))) (fun _ _ _ _ _ => by exact pts_nil) (fun _ _ _ _ _ => by exact (pe_cal c__law_place hr (pa_cons (pv 0) (pa_cons (pe_cal c__law_draw hr (pa_cons (pv 0) (pa_cons pe_int pa_nil))) pa_nil))))))
      (pss_cons (ps_set (i := 5) sc__law_by_one.nd rfl (.inl rfl) (pe_callTy call_list_of (by rfl) z.list (by decide +kernel) (pa_cons (pv 4) pa_nil)))
      (pss_cons (ps_if (PW.pt (pw_or (pt_cmpR (op_neD hr.units) (pe_cal c_shape hr (pa_cons (pv 9) pa_nil)) (pe_tup (pa_cons (pv 2) (pa_cons (pv 3) pa_nil))) (nomark _)) (pw_or1 (pt_not (pt_val (pe_lamTwo (k := 7) GT (gives_twice (by decide) z c__law_plain) hr (pa_cons (pe_lamV (T := T) (k := 7) (t := fun _ => tCall (spMirr K) [] E0 (tCons (tVar 9) tNil)) ⟨LamX.lamS_by (by show LamX.lamSB (defScope s__law_by_one) _ = true; decide +kernel), (by intros; rfl), (fun E A out s H fl cd rm => by exact (pe_cal c_mirrored rm (pa_cons (pv 9) pa_nil)))⟩ TB (hm := hm) (hu := hu)) (pa_cons (pe_cal c__law_columns hr (pa_cons (pv 1) pa_nil)) pa_nil)))))))) (pss_one (ps_ret pe_bl)) pss_nil)
      (pss_cons (ps_setLc (i := 6) (own := [("_law_row", 10)]) (g := gName 10) (tt := tYes) (te := (tLc (iList K (tVar 10)) (gName 12) tYes (tCall spLowP [] E0 (tCons (tOp (rI CMulW fun i j => V.int (i * j)) (tOp (rIxT K) (tVar 12) (tC (.int 0))) (tOp (rIxT K) (tVar 8) (tC (.int 0)))) (tCons (tOp (rI CMulW fun i j => V.int (i * j)) (tOp (rIxT K) (tVar 12) (tC (.int 1))) (tOp (rIxT K) (tVar 8) (tC (.int 1)))) tNil))) (([("_law_place_here", 12)] : List (Str × Nat)).map (·.2)))) (by rfl) sc__law_by_one.nd rfl rfl (sw_true rfl rfl rfl (by decide +kernel)) (pi_list (pv 1)) (blkOk_by (own := [("_law_row", 10)]) (N := ["_law_well_here", "_law_one_here", "_law_rows", "_law_columns_here", "_law_xs", "_law_given", "_law_due", "_law_told", "_law_by", "_law_handed", "_law_row", "_law_k", "_law_place_here"]) (sc := defScope s__law_by_one) (by decide +kernel)) (fun _ _ _ _ _ => by exact (pg_name (i := 10) sc__law_by_one.nd rfl (.inl rfl))) (fun _ _ _ _ _ => by exact pts_nil) (fun _ _ _ _ _ => by exact (@pe_lc _ _ _ _ _ _ _ _ _ _ _ _ (by rfl) sc__law_by_one.nd (pi_list (pv 10)) (blkOk_by (own := [("_law_place_here", 12)]) (N := ["_law_well_here", "_law_one_here", "_law_rows", "_law_columns_here", "_law_xs", "_law_given", "_law_due", "_law_told", "_law_by", "_law_handed", "_law_row", "_law_k", "_law_place_here"]) (sc := ({ kind := PySem.ScopeKind.function, names := [(".0", .local), ("_law_row", .local), ("_law_by", .cell)], isGenerator := false, isCoroutine := false, more := [] })) (by decide +kernel)) (fun _ _ _ _ _ => by exact (pg_name (i := 12) sc__law_by_one.nd rfl (.inl rfl))) (fun _ _ _ _ _ => by exact pts_nil) (fun _ _ _ _ _ => by exact (pe_cal c__law_low hr (pa_cons (pe_op op_mulW (pe_ix ix_tup (pv 12) pe_int (fun _ _ => rfl)) (pe_ix ix_tup (pv 8) pe_int (fun _ _ => rfl))) (pa_cons (pe_op op_mulW (pe_ix ix_tup (pv 12) pe_int (fun _ _ => rfl)) (pe_ix ix_tup (pv 8) pe_int (fun _ _ => rfl))) pa_nil)))) (by intro _; rfl))))
      (pss_cons (ps_if (pt_not (pt_val (pe_lamTwo (k := 7) GT (gives_twice (by decide) z c__law_plain) hr (pa_cons (pe_lamV (T := T) (k := 7) (t := fun _ => tCall (spScaled K) [] E0 (tCons (tVar 9) (tCons (tVar 8) tNil))) ⟨LamX.lamS_by (by show LamX.lamSB (defScope s__law_by_one) _ = true; decide +kernel), (by intros; rfl), (fun E A out s H fl cd rm => by exact (pe_cal c_scaled rm (pa_cons (pv 9) (pa_cons (pv 8) pa_nil))))⟩ TB (hm := hm) (hu := hu)) (pa_cons (pv 6) pa_nil))))) (pss_one (ps_ret pe_bl)) pss_nil)
      (pss_cons (ps_set (i := 7) sc__law_by_one.nd rfl (.inl rfl) (pe_cal c_led hr (pa_cons (pv 9) (pa_cons (pv 5) pa_nil))))
      (pss_cons (ps_if (PW.pt (pw_or (pt_cmpR (op_neD hr.units) (pv 7) (pe_lc (own := [("_law_row", 10)]) (g := gName 10) (tt := tYes) (te := (tCall (spLDot K) [] E0 (tCons (tVar 10) (tCons (tVar 4) tNil)))) (by rfl) sc__law_by_one.nd (pi_list (pv 1)) (blkOk_by (own := [("_law_row", 10)]) (N := ["_law_well_here", "_law_one_here", "_law_rows", "_law_columns_here", "_law_xs", "_law_given", "_law_due", "_law_told", "_law_by", "_law_handed", "_law_row", "_law_k", "_law_place_here"]) (sc := defScope s__law_by_one) (by decide +kernel)) (fun _ _ _ _ _ => by exact (pg_name (i := 10) sc__law_by_one.nd rfl (.inl rfl))) (fun _ _ _ _ _ => by exact pts_nil) (fun _ _ _ _ _ => by exact (pe_cal c__law_dot hr (pa_cons (pv 10) (pa_cons (pv 4) pa_nil))))) (nomark _)) (pw_or1 (pt_not (pt_val (pe_cal c__law_plain hr (pa_cons (pv 7) pa_nil))))))) (pss_one (ps_ret pe_bl)) pss_nil)
      (pss_cons (ps_expr (pe_bm PySem.F.plainAttrs_list PySem.F.slot_list_append PySem.F.type_list_append mt_append (pv 7) (pa_cons pe_int pa_nil)))
      (pss_one (ps_ret (pe_and (pe_cmpR (op_eqD hr.units) (pe_cal c_led hr (pa_cons (pv 9) (pa_cons (pv 5) pa_nil))) (pe_lc (own := [("_law_row", 10)]) (g := gName 10) (tt := tYes) (te := (tCall (spLDot K) [] E0 (tCons (tVar 10) (tCons (tVar 4) tNil)))) (by rfl) sc__law_by_one.nd (pi_list (pv 1)) (blkOk_by (own := [("_law_row", 10)]) (N := ["_law_well_here", "_law_one_here", "_law_rows", "_law_columns_here", "_law_xs", "_law_given", "_law_due", "_law_told", "_law_by", "_law_handed", "_law_row", "_law_k", "_law_place_here"]) (sc := defScope s__law_by_one) (by decide +kernel)) (fun _ _ _ _ _ => by exact (pg_name (i := 10) sc__law_by_one.nd rfl (.inl rfl))) (fun _ _ _ _ _ => by exact pts_nil) (fun _ _ _ _ _ => by exact (pe_cal c__law_dot hr (pa_cons (pv 10) (pa_cons (pv 4) pa_nil))))) (nomark _)) (pe_and (pe_cmpR (op_eqD hr.units) (pv 5) (pv 4) (nomark _)) (pe_one (pe_cmpR (op_eqD hr.units) (pv 9) (pv 1) (nomark _)))))))))))))))))), ?_⟩
    have lu := hs.1
    have n10 := rc.n10
    have w10 := rc.w10
    refine ⟨_, rfl, a, _, rfl, .inl (SqL.of ha), _, rfl, a, us, A, rfl, ha, hs, rc, fun pc cs H1 hpc s1 ec1 sC => ⟨pc, cs, rfl, .inl (SqL.of ec1), _, _, rfl, ?_⟩⟩
    have lcs : cs.length = widR A := by
      rw [sC.1]
      unfold turnR
      rw [List.length_map, List.length_range]
    have M1 : MatAt H1 a A := ⟨us, s1 _ _ ha, hs.same s1⟩
    have T1 := LamX.Tabs.ext hT s1
    have w1 := hw.same s1
    have X1 : ExtW ww H H1 := ExtW.but (SameBut.of s1)
    clear sC ec1 hpc
    generalize cs.length = m at *
    subst lcs
    refine ⟨_, rfl, a, rfl, ⟨_, SqL.of (s1 _ _ ha)⟩, fun Dh hDh => lc_list (K := K) (a := a) (xs := us) (fun i G => Same H1 G ∧ ∃ vs9, G Dh = some (.lst vs9) ∧ (∀ v ∈ vs9, v ≠ .ref Dh) ∧ SeL G vs9 (A.take i)) ⟨same_new hDh, [], upd_same, (fun v hv => absurd hv List.not_mem_nil), rfl, fun i r e => by rw [List.take_zero] at e; cases e⟩ (fun i G _ hP => SqL.of (hP.1 _ _ (s1 _ _ ha))) (fun i x G hx hP => ?_) (fun G2 hP => ?_)⟩
    · obtain ⟨sG, vs9, e9, n9, se9⟩ := hP
      obtain ⟨b, r, rfl, hr2, fb⟩ := (hs.same s1).get hx
      have li := (List.getElem?_eq_some_iff.mp hr2).1
      obtain ⟨rv, hb, lb, fv⟩ := (fb.same sG).len
      have l9 := se9.1
      rw [List.length_take] at l9
      refine ⟨rfl, _, rfl, b, rv, rfl, .inl (SqL.of hb), fun l hl => ?_⟩
      have sl := same_new (o := .lst rv) hl
      have e9l := sl _ _ e9
      have nl : l ≠ Dh := fun e => by
        rw [e, e9] at hl
        cases hl
      have fl9 : FrL (upd G l (.lst rv)) l r := ⟨rv, upd_same, PrsAt.same fv sl⟩
      refine ⟨vs9, e9l, small1000 (by omega), fun c o e => ?_, vs9 ++ [.ref l], upd_same, fun v hv => ?_, ?_⟩
      · rw [upd_ne (ne_of_none e hDh)]
        exact sl _ _ (sG _ _ e)
      · rcases List.mem_append.mp hv with h | h
        · exact n9 v h
        · rw [List.mem_singleton.mp h]
          exact fun z => nl (V.ref.inj z)
      · rw [show A.take (i + 1) = A.take i ++ [r] by rw [List.take_succ, hr2]; rfl]
        exact SeL.app ((se9.same sl).butN e9l n9 SameBut.upd) (SeL.one (fl9.but nl SameBut.upd e9l))
    obtain ⟨s2, vh, eh, _, sh⟩ := hP
    rw [List.take_of_length_le (by omega)] at sh
    have M2 := M1.same s2
    have T2 := LamX.Tabs.ext T1 s2
    have w2 := w1.same s2
    have X2 : ExtW ww H G2 := X1.trans (ExtW.but (SameBut.of s2))
    have MH2 : MatAt G2 Dh A := ⟨vh, eh, sh⟩
    clear eh sh s1 s2 w1 T1 X1 M1
    refine ⟨_, rfl, _, rfl, ww, c', 3, rfl, w2, by omega, by decide, by decide, fun r3 H3 r30 r31 d3 f3 w3 => ?_⟩
    refine ⟨ww, c' + 1, r3, rfl, w3, by omega, fun pb qb H4 hpb d4 w4 fb4 sb4 => ?_⟩
    have D4 := d3.trans d4
    have M4 := M2.well D4 w2
    have MH4 := MH2.well D4 w2
    have T4 := tabs_but T2 D4 w2
    have X4 : ExtW ww H H4 := X2.trans (ExtW.but D4)
    clear M2 MH2 T2 X2 D4 d3 d4 f3 w3 w2
    refine ⟨_, rfl, widR A, rfl, by omega, by omega, fun px hpx => ?_⟩
    rw [Int.toNat_natCast]
    have npx := w4.ne hpx
    refine lc_range (lo := 0) (n := widR A) (fun j Y => SameBut ww H4 Y ∧ WellAt Y ww (c' + 1 + 8 + 9 * (j : Int)) ∧ ∃ qs, FrL Y px qs ∧ qs.length = j ∧ ∀ q ∈ qs, Sm q) ⟨SameBut.of (same_new hpx), (w4.same (same_new hpx)).mono (by omega), [], ⟨[], upd_same, .nil⟩, rfl, fun q hq => by cases hq⟩ (fun j Y hj hQ => ?_) (fun H5 hQ => ?_)
    · obtain ⟨dY, wY, qs, ⟨vs, hv, fv⟩, lq, smq⟩ := hQ
      refine ⟨rfl, _, rfl, _, rfl, ww, _, 2, rfl, wY, by omega, by decide, by decide, fun r5 Y1 r50 r51 d5 f5 w5 => ?_⟩
      refine ⟨ww, _, r5, rfl, w5, by omega, fun p q Y2 hp d2 w6 f2 sm2 => ?_⟩
      have hv1 := d5 _ _ npx hv
      have hv2 := d2 _ _ npx hv1
      have np : p ≠ px := fun e => by
        rw [e, hv1] at hp
        cases hp
      have lv := FrsAt.len fv
      refine ⟨vs, hv2, small1000 (by omega), fun b o nb e => ?_, ?_, qs ++ [q], ⟨vs ++ [.ref p], upd_same, FrsAt.app (PrsAt.but (PrsAt.well (PrsAt.well fv d5 wY) d2 w5) SameBut.upd hv2) (FrsAt.one ?_)⟩, by rw [List.length_append, lq]; rfl, fun x hx => ?_⟩
      · rw [upd_ne (ne_of_none e hpx)]
        exact d2 _ _ nb (d5 _ _ nb (dY _ _ nb e))
      · exact (w6.but SameBut.upd (Ne.symm npx)).mono (by omega)
      · show (upd Y2 px _) p = _
        rw [upd_ne np]
        exact f2
      · rcases List.mem_append.mp hx with hx | hx
        · exact smq x hx
        · rw [List.mem_singleton.mp hx]
          exact sm2
    obtain ⟨d5, w5, xs, fx5, lx, smx⟩ := hQ
    obtain ⟨xv, ex5, lxv, fv5⟩ := fx5.len
    refine ⟨_, rfl, px, xv, rfl, .inl (SqL.of ex5), fun pg hpg => ?_⟩
    have sg := same_new (o := .lst xv) hpg
    have B : BagB T H ww a Dh pb px pg A qb xs (c' + 200) (upd H5 pg (.lst xv)) := ⟨(w5.same sg).mono (by omega), LamX.Tabs.ext (tabs_but T4 d5 w4) sg, X4.trans ((ExtW.but d5).trans (ExtW.but (SameBut.of sg))), (M4.well d5 w4).same sg, (MH4.well d5 w4).same sg, sg _ _ (fb4.well d5 w4), fx5.same sg, ⟨xv, upd_same, PrsAt.same fv5 sg⟩⟩
    generalize hX : upd H5 pg _ = G0 at B ⊢
    clear hX sg hpg fv5 ex5 fx5 w5 d5 T4 X4 M4 MH4 fb4 w4 hpx npx hpb
    obtain ⟨wh, eh, sh⟩ := B.h
    refine ⟨_, rfl, Dh, wh, A, rfl, eh, sh, rc, fun p6 H6 hp6 s6 e6 => ?_⟩
    replace B := B.same s6
    refine ⟨_, rfl, _, rfl, (by show 2 ≤ sizeLine; decide), fun p7 hp7 => ?_⟩
    have s7 := same_new (o := .tup [.int (us.length : Nat), .int (widR A : Nat)]) hp7
    replace B := B.same s7
    refine ⟨.tuple [.int (A.length : Nat), .int (widR A : Nat)], .tuple [.int (A.length : Nat), .int (widR A : Nat)], .tup (SqT.of (s7 _ _ e6)) (.cons (.int _) (.cons (.int _) .nil)), .tup (SqT.of (by rw [← lu]; exact upd_same)) (.cons (.int _) (.cons (.int _) .nil)), rfl, rfl, _, rfl, ?_⟩
    rw [tup_eqv]
    refine iteF ?_
    generalize hX : upd H6 p7 _ = G0 at B ⊢
    clear hX s7 hp7 e6 s6 eh sh
    refine ⟨B.tb, fun fl G1 e1 T1 hfl iL => ?_⟩
    replace B := B.ext e1 T1
    obtain ⟨wa, ea, sa⟩ := B.a
    refine ⟨_, rfl, a, wa, A, rfl, ea, sa, rc, fun pd vd Hd hpd sd ed sD => ⟨fl, .ref pd, _, rfl, iL.ext (LamX.ExtN.of sd), fun cd => ?_⟩⟩
    replace B := B.same sd
    refine ⟨pd, vd, turnR A (widR A), rfl, ed, sD, by rw [turn_len]; exact w10, fun s hs => by rw [turn_row hs]; exact n10, fun G Q' sG k => ⟨_, rfl, Dh, A, rfl, B.h.same sG, rc, k⟩, fun G2 s2 => ⟨_, rfl, iteF ?_⟩⟩
    replace B := B.same s2
    clear s2 sD ed sd hpd ea sa iL hfl e1 T1
    obtain ⟨wa, ea, sa⟩ := B.a
    have lwa := sa.1
    refine ⟨_, rfl, a, rfl, ⟨_, SqL.of ea⟩, fun D hD => lc_list (K := K) (a := a) (xs := wa) (fun i G => Same G2 G ∧ ∃ us, G D = some (.lst us) ∧ (∀ v ∈ us, v ≠ .ref D) ∧ SeL G us (scR (A.take i) qb)) ⟨same_new hD, [], upd_same, (fun v hv => absurd hv List.not_mem_nil), rfl, fun i s e => by rw [List.take_zero] at e; cases e⟩ (fun i G _ hP => SqL.of (hP.1 _ _ ea)) (fun i x G hx hP => ?_) (fun G3 hP => ?_)⟩
    · obtain ⟨sG, us, eD, nus, se⟩ := hP
      obtain ⟨b, r, rfl, hr2, fb⟩ := sa.get hx
      have li := (List.getElem?_eq_some_iff.mp hr2).1
      have mr := List.mem_of_getElem? hr2
      have wr := rc.row mr
      obtain ⟨rv, hb, lb, fv⟩ := (fb.same sG).len
      have l9 := se.1
      unfold scR at l9
      rw [List.length_map, List.length_take] at l9
      refine ⟨rfl, ?_⟩
      refine ⟨_, rfl, b, rfl, ⟨_, SqL.of hb⟩, fun D4 hD4 => lc_list (K := K) (a := b) (xs := rv) (fun j Y => Same G Y ∧ FrL Y D4 ((r.take j).map fun x => x * qb)) ⟨same_new hD4, [], upd_same, by rw [List.take_zero]; exact .nil⟩ (fun j Y _ hP => SqL.of (hP.1 _ _ hb)) (fun j x Y hj hQ => ?_) (fun Y hQ => ?_)⟩
      · obtain ⟨sY, vs, hv, fr⟩ := hQ
        obtain ⟨p, y, rfl, hy, hp⟩ := FrsAt.get fv hj
        have lj := (List.getElem?_eq_some_iff.mp hy).1
        obtain ⟨z1, z2⟩ := sm r mr y (List.mem_of_getElem? hy)
        obtain ⟨z3, z4⟩ := sb4
        have z2' : ((y.den : Int)).natAbs < 2 ^ 150 := by rw [Int.natAbs_natCast]; exact z2
        have z4' : ((qb.den : Int)).natAbs < 2 ^ 150 := by rw [Int.natAbs_natCast]; exact z4
        have hpY : SqT K Y p [.int y.num, .int (y.den : Int)] := SqT.of (sY _ _ hp)
        have hbY : SqT K Y pb [.int qb.num, .int (qb.den : Int)] := SqT.of (sY _ _ (sG _ _ B.b))
        refine ⟨rfl, _, rfl, p, _, 0, .int y.num, rfl, rfl, hpY, a0, _, rfl, pb, _, 0, .int qb.num, rfl, rfl, hbY, a0, _, _, rfl, rfl, wide_mul z1 z3 (by decide) (by decide) (by decide), _, rfl, p, _, 1, .int y.den, rfl, rfl, hpY, a1, _, rfl, pb, _, 1, .int qb.den, rfl, rfl, hbY, a1, _, _, rfl, rfl, wide_mul z2' z4' (by decide) (by decide) (by decide), _, _, rfl, Int.mul_pos (den_ge y) (den_ge qb), ?_, fun t ht => ?_⟩
        · rw [Int.natAbs_mul]
          have := Nat.mul_lt_mul'' z2' z4'
          rw [← Nat.pow_add] at this
          exact up this (by decide)
        have st := same_new (o := .tup [.int (lowT (y.num * qb.num) (y.den * qb.den)), .int (lowB (y.num * qb.num) (y.den * qb.den))]) ht
        have nt : t ≠ D4 := fun e => by
          rw [e, hv] at ht
          cases ht
        have lv := FrsAt.len fr
        rw [List.length_map, List.length_take] at lv
        refine ⟨vs, st _ _ hv, small1000 (by omega), fun c o e => ?_, vs ++ [.ref t], upd_same, ?_⟩
        · rw [upd_ne (ne_of_none e hD4)]
          exact st _ _ (sY _ _ e)
        · rw [show r.take (j + 1) = r.take j ++ [y] by rw [List.take_succ, hy]; rfl, List.map_append]
          refine FrsAt.app (PrsAt.but (PrsAt.same fr st) SameBut.upd (st _ _ hv)) (FrsAt.one ?_)
          have f1 : Fr (upd Y t (.tup [.int (lowT (y.num * qb.num) (y.den * qb.den)), .int (lowB (y.num * qb.num) (y.den * qb.den))])) t (y * qb) := Fr.low (t := y.num * qb.num) (b := (y.den * qb.den : Int)) (Int.mul_ne_zero (den_ne y) (den_ne qb)) (times_q y qb) upd_same
          show (upd (upd Y t _) D4 _) t = _
          rw [upd_ne nt]
          exact f1
      · obtain ⟨sY, fr⟩ := hQ
        rw [List.take_of_length_le (by omega)] at fr
        have eDY := sY _ _ eD
        have n4 : D4 ≠ D := fun e => by
          rw [e, eD] at hD4
          cases hD4
        refine ⟨us, eDY, small1000 (by omega), fun c o e => ?_, us ++ [.ref D4], upd_same, fun v hv => ?_, ?_⟩
        · rw [upd_ne (ne_of_none e hD)]
          exact sY _ _ (sG _ _ e)
        · rcases List.mem_append.mp hv with h | h
          · exact nus v h
          · rw [List.mem_singleton.mp h]
            exact fun z => n4 (V.ref.inj z)
        · unfold scR
          rw [show A.take (i + 1) = A.take i ++ [r] by rw [List.take_succ, hr2]; rfl, List.map_append]
          exact SeL.app ((se.same sY).butN eDY nus SameBut.upd) (SeL.one (fr.but n4 SameBut.upd eDY))
    obtain ⟨s3, vd, ed, _, sD⟩ := hP
    rw [List.take_of_length_le (by omega)] at sD
    replace B := B.same s3
    clear s3 ea sa hD lwa
    refine ⟨B.tb, fun fl G1 e1 T1 hfl iL => ?_⟩
    replace B := B.ext e1 T1
    have MD : MatAt G1 D (scR A qb) := MatAt.ext ⟨vd, ed, sD⟩ e1
    obtain ⟨vd1, ed1, sD1⟩ := MD
    refine ⟨_, rfl, fl, .ref D, _, rfl, iL, fun cd => ?_⟩
    refine ⟨D, vd1, scR A qb, rfl, ed1, sD1, by unfold scR; rw [List.length_map]; exact n10, fun s hs => ?_, fun G Q' sG k => ⟨_, rfl, _, rfl, Dh, pb, A, qb, rfl, B.h.same sG, rc, sG _ _ B.b, sm, sb4, k⟩, fun G4 s4 => ⟨_, rfl, iteF ?_⟩⟩
    · unfold scR at hs
      obtain ⟨r, hr, rfl⟩ := List.mem_map.mp hs
      rw [List.length_map]
      exact (rc.row hr).2.2
    replace B := B.same s4
    clear s4 sD1 ed1 iL hfl e1 T1 sD ed
    have smlx : SmL xs := ⟨by omega, smx⟩
    have B4 := B
    refine ⟨_, rfl, _, rfl, Dh, pg, A, xs, rfl, B.h, B.g, rc, lx, sm, smx, fun pt G5 hpt s5 ft => ?_⟩
    replace B := B.same s5
    obtain ⟨wa, ea, sa⟩ := B.a
    have lwa := sa.1
    refine ⟨_, rfl, _, rfl, a, rfl, ⟨_, SqL.of ea⟩, fun D hD => lc_list (K := K) (a := a) (xs := wa) (fun i Y => Same G5 Y ∧ FrL Y D ((A.take i).map fun r => dotR r xs)) ⟨same_new hD, [], upd_same, by rw [List.take_zero]; exact .nil⟩ (fun i Y _ hP => SqL.of (hP.1 _ _ ea)) (fun i x Y hx hP => ?_) (fun G6 hP => ?_)⟩
    · obtain ⟨sY, vs, hv, fr⟩ := hP
      obtain ⟨b, r, rfl, hr2, fb⟩ := sa.get hx
      have li := (List.getElem?_eq_some_iff.mp hr2).1
      have mr := List.mem_of_getElem? hr2
      have wr := rc.row mr
      have wr2 := rc.wid r mr
      have lv := FrsAt.len fr
      rw [List.length_map, List.length_take] at lv
      refine ⟨rfl, _, rfl, _, rfl, b, px, r, xs, 300, 8010, rfl, (fb.same sY).k, (B.x.same sY).k, dotok_small (rc.sml sm mr) smlx (by omega), fun p Y2 hp s9 f9 => ?_⟩
      have hv9 := s9 _ _ hv
      refine ⟨vs, hv9, small1000 (by omega), fun c o e => ?_, vs ++ [.ref p], upd_same, ?_⟩
      · rw [upd_ne (ne_of_none e hD)]
        exact s9 _ _ (sY _ _ e)
      · rw [show A.take (i + 1) = A.take i ++ [r] by rw [List.take_succ, hr2]; rfl, List.map_append]
        refine FrsAt.app (PrsAt.but (PrsAt.same fr s9) SameBut.upd hv9) (FrsAt.one ?_)
        show (upd Y2 D _) p = _
        rw [upd_ne (ne_of f9 hv9 (fun z => nomatch z))]
        exact f9
    obtain ⟨sd, fD⟩ := hP
    rw [List.take_of_length_le (by omega)] at fD
    replace B := B.same sd
    have ft6 := ft.same sd
    refine ⟨.list ((A.map fun r => dotR r xs).map frD), .list ((A.map fun r => dotR r xs).map frD), ft6.dp, fD.dp, frL_shaped _, frL_shaped _, _, rfl, ?_⟩
    rw [frL_eqv, decide_eq_true rfl]
    refine iteF ?_
    refine ⟨_, rfl, .ref pt, rfl, ft6.pl (by rw [List.length_map]; omega), fun G7 s7 => ⟨_, rfl, iteF ?_⟩⟩
    replace B := B.same s7
    obtain ⟨tv, et, ltv, ftv⟩ := (ft6.same s7).len
    rw [List.length_map] at ltv
    have S47 : Same G4 (upd G7 pt (.lst (tv ++ [.int 7]))) := fun c o e => by
      rw [upd_ne (ne_of_none e hpt)]
      exact s7 _ _ (sd _ _ (s5 _ _ e))
    replace B := B4.same S47
    clear ft6 fD sd hD ea sa lwa ft s5 s7 S47 B4 ftv
    refine ⟨_, rfl, .inl ⟨rfl, _, SqL.of et⟩, pt, tv, .int 7, rfl, rfl, et, small1000 (by omega), ?_⟩
    generalize hX : upd G7 pt _ = G0 at B ⊢
    clear hX et hpt
    refine ⟨_, rfl, _, rfl, Dh, pg, A, xs, rfl, B.h, B.g, rc, lx, sm, smx, fun pt G8 hpt s8 ft => ?_⟩
    replace B := B.same s8
    obtain ⟨wa, ea, sa⟩ := B.a
    have lwa := sa.1
    refine ⟨_, rfl, a, rfl, ⟨_, SqL.of ea⟩, fun D hD => lc_list (K := K) (a := a) (xs := wa) (fun i Y => Same G8 Y ∧ FrL Y D ((A.take i).map fun r => dotR r xs)) ⟨same_new hD, [], upd_same, by rw [List.take_zero]; exact .nil⟩ (fun i Y _ hP => SqL.of (hP.1 _ _ ea)) (fun i x Y hx hP => ?_) (fun G9 hP => ?_)⟩
    · obtain ⟨sY, vs, hv, fr⟩ := hP
      obtain ⟨b, r, rfl, hr2, fb⟩ := sa.get hx
      have li := (List.getElem?_eq_some_iff.mp hr2).1
      have mr := List.mem_of_getElem? hr2
      have wr := rc.row mr
      have wr2 := rc.wid r mr
      have lv := FrsAt.len fr
      rw [List.length_map, List.length_take] at lv
      refine ⟨rfl, _, rfl, _, rfl, b, px, r, xs, 300, 8010, rfl, (fb.same sY).k, (B.x.same sY).k, dotok_small (rc.sml sm mr) smlx (by omega), fun p Y2 hp s9 f9 => ?_⟩
      have hv9 := s9 _ _ hv
      refine ⟨vs, hv9, small1000 (by omega), fun c o e => ?_, vs ++ [.ref p], upd_same, ?_⟩
      · rw [upd_ne (ne_of_none e hD)]
        exact s9 _ _ (sY _ _ e)
      · rw [show A.take (i + 1) = A.take i ++ [r] by rw [List.take_succ, hr2]; rfl, List.map_append]
        refine FrsAt.app (PrsAt.but (PrsAt.same fr s9) SameBut.upd hv9) (FrsAt.one ?_)
        show (upd Y2 D _) p = _
        rw [upd_ne (ne_of f9 hv9 (fun z => nomatch z))]
        exact f9
    obtain ⟨sd, fD⟩ := hP
    rw [List.take_of_length_le (by omega)] at fD
    replace B := B.same sd
    have ft6 := ft.same sd
    refine ⟨.list ((A.map fun r => dotR r xs).map frD), .list ((A.map fun r => dotR r xs).map frD), ft6.dp, fD.dp, frL_shaped _, frL_shaped _, ?_⟩
    rw [frL_eqv, decide_eq_true rfl]
    refine ⟨_, rfl, iteT ?_⟩
    refine ⟨_, rfl, _, rfl, .list (xs.map frD), .list (xs.map frD), B.g.dp, B.x.dp, frL_shaped _, frL_shaped _, ?_⟩
    rw [frL_eqv, decide_eq_true rfl]
    refine ⟨_, rfl, iteT ?_⟩
    refine ⟨_, rfl, _, rfl, .list (llD A), .list (llD A), B.h.dp, B.a.dp, ll_shaped _, ll_shaped _, ?_⟩
    rw [ll_eqv]
    exact q _ B.ex B.tb B.w
end
end E1

namespace E1
open PySem PySem.Spec PyProof.Rows L2
theorem sqL_ext {K : PySem.W.Frag} {H H' : Hp} {a : Addr} {xs : List V} (h : SqL K H a xs) (e : LamX.ExtN H H') : SqL K H' a xs := by
  rcases h with (h | ⟨o, h⟩) | h
  · exact .inl (.inl (e _ _ h (fun _ z => nomatch z)))
  · exact .inl (.inr ⟨o, e _ _ h (fun _ z => nomatch z)⟩)
  · exact .inr h
theorem Same.seq {K : PySem.W.Frag} {H H' : Hp} {a : Addr} {xs : List V} (s : Same H H') (h : SqL K H a xs) : SqL K H' a xs := sqL_ext h (LamX.ExtN.of s)

def TT11 (Pt Pb : Addr) : List (Addr × Str) := [(Pt, lawQ), (Pb, byQ)]
def spLaw (K : PySem.W.Frag) (Pt Pb : Addr) : Sp := fun vs H Q _ => ∃ (a : Addr) (ns : List Int), vs = [.ref a] ∧ SqL K H a (ns.map V.int) ∧ ns.length ≤ 63 ∧ LamX.Tabs (TT11 Pt Pb) H ∧ ∀ H', Q (.bl true) H'
theorem PrsAt.extW {w : Addr} {H H' : Hp} {c : Int} {vs : List V} {ps : List (Int × Int)} (h : PrsAt H vs ps) (hw : WellAt H w c) (e : ExtW w H H') : PrsAt H' vs ps := by
  induction h with
  | nil => exact .nil
  | cons a _ ih =>
    refine .cons (e _ _ a ?_ (fun _ z => nomatch z)) ih
    obtain ⟨x, y, z, e9, _⟩ := hw
    exact ne_of a e9 (fun z => nomatch z)
theorem MatAt.extW {w p : Addr} {H H' : Hp} {c : Int} {M : List (List Rat)} (h : MatAt H p M) (hw : WellAt H w c) (e : ExtW w H H') : MatAt H' p M := by
  obtain ⟨ws, g1, g2⟩ := h
  exact ⟨ws, e _ _ g1 (g2.nw g1 hw) (fun _ z => nomatch z), g2.1, fun i s q => let ⟨b, k1, vs, k2, k3⟩ := g2.2 i s q; ⟨b, k1, vs, e _ _ k2 (FrL.nw ⟨vs, k2, k3⟩ hw) (fun _ z => nomatch z), k3.extW hw e⟩⟩
theorem divpr (q : Rat) : Rat.divInt (pr q).1 (pr q).2 = q := Rat.num_divInt_den q
theorem sum2 (x y : Rat) : sumR ([pr x, pr y].map fun p => Rat.divInt p.1 p.2) = x + y := by
  show Rat.divInt (pr x).1 (pr x).2 + (Rat.divInt (pr y).1 (pr y).2 + 0) = _
  rw [divpr, divpr]
  grind
theorem sum2_ok {x y : Rat} (hx : Sm x) (hy : Sm y) : ∀ k, k ≤ 2 → Bq 310 (sumR (([pr x, pr y].take k).map fun p => Rat.divInt p.1 p.2)) := fun k hk => by
  have p150 : (2 : Nat) ^ 150 ≤ 2 ^ 310 := Nat.pow_le_pow_right (by decide) (by decide)
  match k, hk with
  | 0, _ =>
    show Bq 310 0
    exact ⟨by decide, by decide⟩
  | 1, _ =>
    show Bq 310 (Rat.divInt (pr x).1 (pr x).2 + 0)
    rw [divpr, show x + 0 = x by grind]
    exact ⟨Nat.lt_of_lt_of_le hx.1 p150, Nat.lt_of_lt_of_le hx.2 p150⟩
  | 2, _ =>
    show Bq 310 (sumR ([pr x, pr y].map fun p => Rat.divInt p.1 p.2))
    rw [sum2]
    have m1 := Nat.mul_lt_mul'' hx.2 hy.2
    have m2 := Nat.mul_lt_mul'' hx.1 hy.2
    have m3 := Nat.mul_lt_mul'' hy.1 hx.2
    rw [← Nat.pow_add] at m1 m2 m3
    have p2 : (2 : Nat) ^ 300 + 2 ^ 300 ≤ 2 ^ 310 := by decide
    have p3 : (2 : Nat) ^ 300 ≤ 2 ^ 310 := Nat.pow_le_pow_right (by decide) (by decide)
    refine bq_div (Int.mul_ne_zero (den_ne x) (den_ne y)) (plus_q x y) ?_ ?_
    · rw [Int.natAbs_mul, Int.natAbs_natCast, Int.natAbs_natCast]
      exact Nat.lt_of_lt_of_le m1 p3
    · have a := Int.natAbs_add_le (x.num * y.den) (y.num * x.den)
      rw [Int.natAbs_mul, Int.natAbs_mul, Int.natAbs_natCast, Int.natAbs_natCast] at a
      change _ < 2 ^ 300 at m2
      change _ < 2 ^ 300 at m3
      generalize (2 : Nat) ^ 310 = Z at *
      generalize (2 : Nat) ^ 300 = Y at *
      omega
theorem addM_mem {s : List Rat} : ∀ {X Y : List (List Rat)}, s ∈ addM X Y → ∃ x ∈ X, s.length ≤ x.length
  | [], Y, h => by cases Y <;> cases h
  | _ :: _, [], h => by cases h
  | x :: X, y :: Y, h => by
    rcases List.mem_cons.mp h with rfl | h
    · exact ⟨x, List.mem_cons_self .., by rw [addR_len]; exact Nat.min_le_left _ _⟩
    · obtain ⟨z, hz, l⟩ := addM_mem h
      exact ⟨z, List.mem_cons_of_mem _ hz, l⟩
/-- what the law holds -/
structure BagL (T : List (Addr × Str)) (L ww Lh h0 h1 h2 pa pb pc : Addr) (cells : List V) (A B C : List (List Rat)) (cc : Int) (G : Hp) : Prop where
  w : WellAt G ww cc
  tb : LamX.Tabs T G
  l : G L = some (.lst cells)
  eL : G Lh = some (.lst [.ref h0, .ref h1, .ref h2])
  d0 : MatAt G h0 A
  d1 : MatAt G h1 B
  d2 : MatAt G h2 C
  e0 : MatAt G pa A
  e1 : MatAt G pb B
  e2 : MatAt G pc C
theorem BagL.ext {T : List (Addr × Str)} {L ww Lh h0 h1 h2 pa pb pc : Addr} {cells : List V} {A B C : List (List Rat)} {cc : Int} {G G' : Hp} (b : BagL T L ww Lh h0 h1 h2 pa pb pc cells A B C cc G) (e : LamX.ExtN G G') (tb : LamX.Tabs T G') : BagL T L ww Lh h0 h1 h2 pa pb pc cells A B C cc G' :=
  ⟨b.w.ext e, tb, e _ _ b.l (fun _ z => nomatch z), e _ _ b.eL (fun _ z => nomatch z), b.d0.ext e, b.d1.ext e, b.d2.ext e, b.e0.ext e, b.e1.ext e, b.e2.ext e⟩
theorem BagL.same {T : List (Addr × Str)} {L ww Lh h0 h1 h2 pa pb pc : Addr} {cells : List V} {A B C : List (List Rat)} {cc : Int} {G G' : Hp} (b : BagL T L ww Lh h0 h1 h2 pa pb pc cells A B C cc G) (s : Same G G') : BagL T L ww Lh h0 h1 h2 pa pb pc cells A B C cc G' := b.ext (LamX.ExtN.of s) (LamX.Tabs.ext b.tb s)
/-- copies that stand on a list D, and none of their rows is D -/
def CopL (G : Hp) (D : Addr) (hs : List Addr) (Ms : List (List (List Rat))) : Prop := hs.length = Ms.length ∧ ∀ (j : Nat) (h : Addr) (M : List (List Rat)), hs[j]? = some h → Ms[j]? = some M → h ≠ D ∧ ∃ ws, G h = some (.lst ws) ∧ (∀ v ∈ ws, v ≠ .ref D) ∧ SeL G ws M
theorem CopL.add {G G2 : Hp} {D h : Addr} {hs : List Addr} {us ws : List V} {Ms : List (List (List Rat))} {M : List (List Rat)} (c : CopL G D hs Ms) (hD : G D = some (.lst us)) (e : Same G G2) (nh : h ≠ D) (hh : G2 h = some (.lst ws)) (nw : ∀ v ∈ ws, v ≠ .ref D) (s : SeL G2 ws M) (xs : List V) :
    CopL (upd G2 D (.lst xs)) D (hs ++ [h]) (Ms ++ [M]) := by
  have e1 := e _ _ hD
  refine ⟨by rw [List.length_append, List.length_append, c.1]; rfl, fun j k N q1 q2 => ?_⟩
  by_cases l : j < hs.length
  · rw [List.getElem?_append_left l] at q1
    rw [List.getElem?_append_left (by rw [← c.1]; exact l)] at q2
    obtain ⟨n1, vs, g1, g2, g3⟩ := c.2 j k N q1 q2
    exact ⟨n1, vs, by rw [upd_ne n1]; exact e _ _ g1, g2, (g3.same e).butN e1 g2 SameBut.upd⟩
  · rw [List.getElem?_append_right (by omega)] at q1
    rw [List.getElem?_append_right (by rw [← c.1]; omega)] at q2
    have z : j - hs.length = 0 := by
      have := (List.getElem?_eq_some_iff.mp q1).1
      simp at this
      exact this
    rw [z] at q1
    rw [← c.1, z] at q2
    cases q1
    cases q2
    exact ⟨nh, ws, by rw [upd_ne nh]; exact hh, nw, s.butN e1 nw SameBut.upd⟩
theorem pick : ∀ (ms : List Nat) (k : Nat), k < ms.length → ∃ m : Nat, (ms.map fun m : Nat => V.int (m : Int))[k]? = some (.int (m : Int)) ∧ m ∈ ms
  | [], k, h => absurd h (Nat.not_lt_zero k)
  | m :: ms, 0, _ => ⟨m, rfl, List.mem_cons_self ..⟩
  | m :: ms, k + 1, h => let ⟨x, e, hx⟩ := pick ms k (Nat.lt_of_succ_lt_succ h); ⟨x, e, List.mem_cons_of_mem _ hx⟩
def l3D (A B C : List (List Rat)) : PyData := .list [.list (llD A), .list (llD B), .list (llD C)]
theorem l3_shaped (A B C : List (List Rat)) : SeqAt.shaped (l3D A B C) = true := by
  have h1 := ll_deep A
  have h2 := ll_deep B
  have h3 := ll_deep C
  unfold l3D
  have h4 : PyData.depth (.list [.list (llD A), .list (llD B), .list (llD C)]) ≤ 64 := by simp only [PyData.depth, PyData.depthAll]; omega
  show (PyData.canLay0 _ && decide (PyData.depth _ ≤ 64)) = true
  rw [Bool.and_eq_true]
  exact ⟨by simp only [PyData.canLay0, PyData.canLayAll0, ll_lay, Bool.and_true], decide_eq_true h4⟩
theorem l3_eqv (A B C : List (List Rat)) : PyData.eqv (l3D A B C) (l3D A B C) = true := SeqAt.eqv_refl _ (SeqAt.canLay_of_shaped (l3_shaped A B C))
theorem cut_ints (ns : List Int) (lo hi : Option Int) : ∃ cs : List Int, cutV (ns.map V.int) lo hi = cs.map V.int := by
  unfold cutV
  rw [← List.map_drop, ← List.map_take]
  exact ⟨_, rfl⟩
section
variable {P : Program} {w : World} {K : PySem.W.Frag} {mg : Str → Option Value} {base : Heap}
theorem sc_law : FnScope ["_law_script", "_law_cell", "_law_well_here", "_law_rows", "_law_columns_here", "_law_afar", "_law_one_here", "_law_other", "_law_third", "_law_due", "_law_handed", "_law_many", "_law_some", "_law_row", "_law_nearby", "_law_i", "_law_a", "_law_b", "_law_column", "_law_j"] ["_law_script"] (defScope s_law) := ⟨rfl, rfl, rfl, by decide +kernel, rfl, by decide +kernel, by decide +kernel⟩
theorem ok_law {f c Pt Pb gS : Addr} {cdS : Value} {fd : FuncData} (F : FunC K "law" s_law f fd c) (z : Zs mg) (TB : LamX.TabB base mg c Pt) (nP : Pt ≠ Pb) (GT : GotTwo K mg "_law_twice" "_law_ask" "_law_due" s__law_twice ["_law_ask", "_law_due", "_law_turn", "_law_told", "_law_row"] gS cdS) (c__law_cell_at : Cal P w K mg base 1 "_law_cell_at" ["_law_script", "_law_k"] (spCell K)) (c__law_well : Cal P w K mg base 1 "_law_well" ["_law_cell"] spWell) (c__law_draw : Cal P w K mg base 1 "_law_draw" ["_law_well_here", "_law_many"] spDraw) (c__law_one : Cal P w K mg base 2 "_law_one" ["_law_well_here", "_law_some"] spOne) (c__law_matrix : Cal P w K mg base 4 "_law_matrix" ["_law_well_here", "_law_rows", "_law_columns_here"] spMatrix) (c__law_by_one : Cal P w K mg base 10 "_law_by_one" ["_law_well_here", "_law_one_here"] (spBy (TT11 Pt Pb))) (c__law_sum : Cal P w K mg base 2 "_law_sum" ["_law_some"] spSumQ) (c__law_dot : Cal P w K mg base 3 "_law_dot" ["_law_one_here", "_law_other"] (spLDot K)) (c__law_columns : Cal P w K mg base 1 "_law_columns" ["_law_matrix_here"] spCols) (c__law_plain : Cal P w K mg base 4 "_law_plain" ["_law_told"] (spPl K 3)) (c_sum_of : Cal P w K mg base 7 "sum_of" ["one", "other"] (spSumM K)) (c_product : Cal P w K mg base 7 "product" ["one", "other"] (spProdM K)) (c_unit : Cal P w K mg base 2 "unit" ["many"] (spUnit K)) (c_shape : Cal P w K mg base 7 "shape" ["matrix"] spShapeX) : FnOk P w K mg base CX0 11 f fd ["_law_script"] (spLaw K Pt Pb) := by
  have hu : ∀ p ∈ TT11 Pt Pb, p.1 = Pt → p.2 = lawQ := fun p hp e => by
    rcases List.mem_cons.mp hp with rfl | hp
    · rfl
    · rw [List.mem_singleton.mp hp] at e
      exact absurd e.symm nP
  refine F.ok sc_law (fun vs H Q E h => ?_) (fun A outer s H vs Q E hr h => ?_)
  · obtain ⟨a, ns, rfl, _⟩ := h
    rfl
  · obtain ⟨a, ns, rfl, hS, hn, hT, q⟩ := h
    refine ⟨_, (pss_cons (ps_for PassesOwn.never rfl (pi_list (pe_op op_cat (pe_lst (pa_cons (pe_cal c__law_cell_at hr (pa_cons (pv 0) (pa_cons pe_int pa_nil))) pa_nil)) (pe_slice sl_list (pv 0) (po_some pe_int) (po_some pe_int)))) (pg_name (i := 1) sc_law.nd rfl (.inl rfl)) (pss_cons (ps_set (i := 2) sc_law.nd rfl (.inl rfl) (pe_cal c__law_well hr (pa_cons (pv 1) pa_nil)))
      (pss_cons (ps_set (i := 3) sc_law.nd rfl (.inl rfl) (pe_cal c__law_one hr (pa_cons (pv 2) (pa_cons (pe_lst (pa_cons pe_int (pa_cons pe_int (pa_cons pe_int (pa_cons pe_int (pa_cons pe_int (pa_cons pe_int (pa_cons pe_int (pa_cons pe_int pa_nil))))))))) pa_nil))))
      (pss_cons (ps_set (i := 4) sc_law.nd rfl (.inl rfl) (pe_op op_mul (pe_ix ix_list (pe_lst (pa_cons pe_int (pa_cons pe_int (pa_cons pe_int (pa_cons pe_int (pa_cons pe_int (pa_cons pe_int (pa_cons pe_int (pa_cons pe_int pa_nil))))))))) (pe_cal c__law_draw hr (pa_cons (pv 2) (pa_cons pe_int pa_nil))) (fun _ _ => rfl)) (pe_callTy call_int1 (by rfl) z.int (by decide +kernel) (pa_cons (pe_cmpR op_gt (pv 3) pe_int (nomark _)) pa_nil))))
      (pss_cons (ps_set (i := 5) sc_law.nd rfl (.inl rfl) (pe_op op_mul (pe_ix ix_list (pe_lst (pa_cons pe_int (pa_cons pe_int (pa_cons pe_int (pa_cons pe_int pa_nil))))) (pe_cal c__law_draw hr (pa_cons (pv 2) (pa_cons pe_int pa_nil))) (fun _ _ => rfl)) (pe_callTy call_int1 (by rfl) z.int (by decide +kernel) (pa_cons (pe_cmpR op_gt (pv 3) pe_int (nomark _)) pa_nil))))
      (C8.pss_cut (ps_if (pt_cmpR op_gt (pe_op op_mul (pv 3) (pv 4)) pe_int (nomark _)) (pss_one (ps_set (i := 4) sc_law.nd rfl (.inl rfl) pe_int)) pss_nil)
      (pss_cons (ps_set (i := 6) sc_law.nd rfl (.inl rfl) (pe_cal c__law_matrix hr (pa_cons (pv 2) (pa_cons (pv 3) (pa_cons (pv 4) pa_nil)))))
      (pss_cons (ps_set (i := 7) sc_law.nd rfl (.inl rfl) (pe_cal c__law_matrix hr (pa_cons (pv 2) (pa_cons (pv 3) (pa_cons (pv 4) pa_nil)))))
      (pss_cons (ps_set (i := 8) sc_law.nd rfl (.inr rfl) (pe_cal c__law_matrix hr (pa_cons (pv 2) (pa_cons (pv 4) (pa_cons (pv 5) pa_nil)))))
      (pss_cons (ps_if (pt_not (pt_val (pe_cal c__law_by_one hr (pa_cons (pv 2) (pa_cons (pv 6) pa_nil))))) (pss_one (ps_ret pe_bl)) pss_nil)
      (pss_cons (ps_set (i := 10) sc_law.nd rfl (.inr rfl) (pe_lc (own := [("_law_some", 12)]) (g := gName 12) (tt := tYes) (te := (tLc (iList K (tVar 12)) (gName 13) tYes (tCB (fun xs H Q => ∃ p ys, xs = [V.ref p] ∧ (SqL K H p ys ∨ SqT K H p ys) ∧ ∀ l, H l = none → Q (.ref l) (upd H l (.lst ys))) (tCons (tVar 13) tNil)) (([("_law_row", 13)] : List (Str × Nat)).map (·.2)))) (by rfl) sc_law.nd (pi_tup (pe_tup (pa_cons (pv 6) (pa_cons (pv 7) (pa_cons (pv 8) pa_nil))))) (blkOk_by (own := [("_law_some", 12)]) (N := ["_law_script", "_law_cell", "_law_well_here", "_law_rows", "_law_columns_here", "_law_afar", "_law_one_here", "_law_other", "_law_third", "_law_due", "_law_handed", "_law_many", "_law_some", "_law_row", "_law_nearby", "_law_i", "_law_a", "_law_b", "_law_column", "_law_j"]) (sc := defScope s_law) (by decide +kernel)) (fun _ _ _ _ _ => by exact (pg_name (i := 12) sc_law.nd rfl (.inl rfl))) (fun _ _ _ _ _ => by exact pts_nil) (fun _ _ _ _ _ => by exact (@pe_lc _ _ _ _ _ _ _ _ _ _ _ _ (by rfl) sc_law.nd (pi_list (pv 12)) (blkOk_by (own := [("_law_row", 13)]) (N := ["_law_script", "_law_cell", "_law_well_here", "_law_rows", "_law_columns_here", "_law_afar", "_law_one_here", "_law_other", "_law_third", "_law_due", "_law_handed", "_law_many", "_law_some", "_law_row", "_law_nearby", "_law_i", "_law_a", "_law_b", "_law_column", "_law_j"]) (sc := ({ kind := PySem.ScopeKind.function, names := [(".0", .local), ("_law_some", .local)], isGenerator := false, isCoroutine := false, more := [] })) (by decide +kernel)) (fun _ _ _ _ _ => by exact (pg_name (i := 13) sc_law.nd rfl (.inl rfl))) (fun _ _ _ _ _ => by exact pts_nil) (fun _ _ _ _ _ => by exact (pe_callTy call_list_of (by rfl) z.list (by decide +kernel) (pa_cons (pv 13) pa_nil))) (by intro _; rfl)))))
      (pss_cons (ps_setLc (i := 9) (own := [("_law_row", 13), ("_law_nearby", 14)]) (g := gTup K 2 (gCons (gName 13) (gCons (gName 14) gNil))) (tt := tYes) (te := (tLc (RZ.iZipA K (tCons (tVar 13) (tCons (tVar 14) tNil))) (gTup K 2 (gCons (gName 16) (gCons (gName 17) gNil))) tYes (tCall spSumQ [] E0 (tCons (tLst (tCons (tVar 16) (tCons (tVar 17) tNil))) tNil)) (([("_law_a", 16), ("_law_b", 17)] : List (Str × Nat)).map (·.2)))) (by rfl) sc_law.nd rfl rfl (sw_true rfl rfl rfl (by decide +kernel)) (RZ.pi_zipA (by rfl) z.zip (pa_cons (pv 6) (pa_cons (pv 7) pa_nil))) (blkOk_by (own := [("_law_row", 13), ("_law_nearby", 14)]) (N := ["_law_script", "_law_cell", "_law_well_here", "_law_rows", "_law_columns_here", "_law_afar", "_law_one_here", "_law_other", "_law_third", "_law_due", "_law_handed", "_law_many", "_law_some", "_law_row", "_law_nearby", "_law_i", "_law_a", "_law_b", "_law_column", "_law_j"]) (sc := defScope s_law) (by decide +kernel)) (fun _ _ _ _ _ => by exact (pg_tup (by rfl) (pgs_cons (pg_name (i := 13) sc_law.nd rfl (.inl rfl)) (pgs_cons (pg_name (i := 14) sc_law.nd rfl (.inl rfl)) pgs_nil)))) (fun _ _ _ _ _ => by exact pts_nil) (fun _ _ _ _ _ => by exact (@pe_lc _ _ _ _ _ _ _ _ _ _ _ _ (by rfl) sc_law.nd (RZ.pi_zipA (by rfl) z.zip (pa_cons (pv 13) (pa_cons (pv 14) pa_nil))) (blkOk_by (own := [("_law_a", 16), ("_law_b", 17)]) (N := ["_law_script", "_law_cell", "_law_well_here", "_law_rows", "_law_columns_here", "_law_afar", "_law_one_here", "_law_other", "_law_third", "_law_due", "_law_handed", "_law_many", "_law_some", "_law_row", "_law_nearby", "_law_i", "_law_a", "_law_b", "_law_column", "_law_j"]) (sc := ({ kind := PySem.ScopeKind.function, names := [(".0", .local), ("_law_row", .local), ("_law_nearby", .local), ("zip", .globalImplicit)], isGenerator := false, isCoroutine := false, more := [] })) (by decide +kernel)) (fun _ _ _ _ _ => by exact (pg_tup (by rfl) (pgs_cons (pg_name (i := 16) sc_law.nd rfl (.inl rfl)) (pgs_cons (pg_name (i := 17) sc_law.nd rfl (.inl rfl)) pgs_nil)))) (fun _ _ _ _ _ => by exact pts_nil) (fun _ _ _ _ _ => by exact (pe_cal c__law_sum hr (pa_cons (pe_lst (pa_cons (pv 16) (pa_cons (pv 17) pa_nil))) pa_nil))) (by intro _; rfl))))
      (pss_cons (ps_if (pt_not (pt_val (pe_lamTwo (k := 7) GT (gives_twice (by decide) z c__law_plain) hr (pa_cons (pe_lamV (T := TT11 Pt Pb) (k := 7) (t := fun _ => tCall (spSumM K) [] E0 (tCons (tOp (rIxL K) (tVar 10) (tC (.int 0))) (tCons (tOp (rIxL K) (tVar 10) (tC (.int 1))) tNil))) ⟨LamX.lamS_by (by show LamX.lamSB (defScope s_law) _ = true; decide +kernel), (by intros; rfl), (fun E A out s H fl cd rm => by exact (pe_cal c_sum_of rm (pa_cons (pe_ix ix_list (pv 10) pe_int (fun _ _ => rfl)) (pa_cons (pe_ix ix_list (pv 10) pe_int (fun _ _ => rfl)) pa_nil))))⟩ TB (hm := List.mem_cons_self) (hu := hu)) (pa_cons (pv 9) pa_nil))))) (pss_one (ps_ret pe_bl)) pss_nil)
      (pss_cons (ps_setLc (i := 9) (own := [("_law_row", 13)]) (g := gName 13) (tt := tYes) (te := (tLc (iList K (tCall spCols [] E0 (tCons (tVar 8) tNil))) (gName 18) tYes (tCall (spLDot K) [] E0 (tCons (tVar 13) (tCons (tVar 18) tNil))) (([("_law_column", 18)] : List (Str × Nat)).map (·.2)))) (by rfl) sc_law.nd rfl rfl (sw_true rfl rfl rfl (by decide +kernel)) (pi_list (pv 6)) (blkOk_by (own := [("_law_row", 13)]) (N := ["_law_script", "_law_cell", "_law_well_here", "_law_rows", "_law_columns_here", "_law_afar", "_law_one_here", "_law_other", "_law_third", "_law_due", "_law_handed", "_law_many", "_law_some", "_law_row", "_law_nearby", "_law_i", "_law_a", "_law_b", "_law_column", "_law_j"]) (sc := defScope s_law) (by decide +kernel)) (fun _ _ _ _ _ => by exact (pg_name (i := 13) sc_law.nd rfl (.inr rfl))) (fun _ _ _ _ _ => by exact pts_nil) (fun _ _ _ _ _ => by exact (@pe_lc _ _ _ _ _ _ _ _ _ _ _ _ (by rfl) sc_law.nd (pi_list (pe_cal c__law_columns hr (pa_cons (pv 8) pa_nil))) (blkOk_by (own := [("_law_column", 18)]) (N := ["_law_script", "_law_cell", "_law_well_here", "_law_rows", "_law_columns_here", "_law_afar", "_law_one_here", "_law_other", "_law_third", "_law_due", "_law_handed", "_law_many", "_law_some", "_law_row", "_law_nearby", "_law_i", "_law_a", "_law_b", "_law_column", "_law_j"]) (sc := ({ kind := PySem.ScopeKind.function, names := [(".0", .local), ("_law_row", .cell), ("_law_columns", .globalImplicit), ("_law_third", .cell)], isGenerator := false, isCoroutine := false, more := [] })) (by decide +kernel)) (fun _ _ _ _ _ => by exact (pg_name (i := 18) sc_law.nd rfl (.inl rfl))) (fun _ _ _ _ _ => by exact pts_nil) (fun _ _ _ _ _ => by exact (pe_cal c__law_dot hr (pa_cons (pv 13) (pa_cons (pv 18) pa_nil)))) (by intro _; rfl))))
      (pss_cons (ps_if (PW.pt (pw_or (pt_not (pt_val (pe_lamTwo (k := 7) GT (gives_twice (by decide) z c__law_plain) hr (pa_cons (pe_lamV (T := TT11 Pt Pb) (k := 7) (t := fun _ => tCall (spProdM K) [] E0 (tCons (tOp (rIxL K) (tVar 10) (tC (.int 0))) (tCons (tOp (rIxL K) (tVar 10) (tC (.int 2))) tNil))) ⟨LamX.lamS_by (by show LamX.lamSB (defScope s_law) _ = true; decide +kernel), (by intros; rfl), (fun E A out s H fl cd rm => by exact (pe_cal c_product rm (pa_cons (pe_ix ix_list (pv 10) pe_int (fun _ _ => rfl)) (pa_cons (pe_ix ix_list (pv 10) pe_int (fun _ _ => rfl)) pa_nil))))⟩ TB (hm := List.mem_cons_self) (hu := hu)) (pa_cons (pv 9) pa_nil))))) (pw_or1 (pt_cmpR (op_neD hr.units) (pv 10) (pe_lst (pa_cons (pv 6) (pa_cons (pv 7) (pa_cons (pv 8) pa_nil)))) (nomark _))))) (pss_one (ps_ret pe_bl)) pss_nil)
      (pss_cons (ps_set (i := 11) sc_law.nd rfl (.inr rfl) (pe_cal c__law_draw hr (pa_cons (pv 2) (pa_cons pe_int pa_nil))))
      (pss_cons (ps_setLc (i := 9) (own := [("_law_i", 15)]) (g := gName 15) (tt := tYes) (te := (tLc (iRng1 (tCons (tVar 11) tNil)) (gName 19) tYes (tTup (tCons (tCB (fun xs H Q => (∃ i, xs = [V.int i] ∧ Q (.int i) H) ∨ ∃ k, xs = [V.bl k] ∧ Q (.int (if k then 1 else 0)) H) (tCons (tOp rEq (tVar 15) (tVar 19)) tNil)) (tCons (tC (.int 1)) tNil))) (([("_law_j", 19)] : List (Str × Nat)).map (·.2)))) (by rfl) sc_law.nd rfl rfl (sw_true rfl rfl rfl (by decide +kernel)) (pi_range1 (by rfl) z.range (pa_cons (pv 11) pa_nil)) (blkOk_by (own := [("_law_i", 15)]) (N := ["_law_script", "_law_cell", "_law_well_here", "_law_rows", "_law_columns_here", "_law_afar", "_law_one_here", "_law_other", "_law_third", "_law_due", "_law_handed", "_law_many", "_law_some", "_law_row", "_law_nearby", "_law_i", "_law_a", "_law_b", "_law_column", "_law_j"]) (sc := defScope s_law) (by decide +kernel)) (fun _ _ _ _ _ => by exact (pg_name (i := 15) sc_law.nd rfl (.inr rfl))) (fun _ _ _ _ _ => by exact pts_nil) (fun _ _ _ _ _ => by exact (@pe_lc _ _ _ _ _ _ _ _ _ _ _ _ (by rfl) sc_law.nd (pi_range1 (by rfl) z.range (pa_cons (pv 11) pa_nil)) (blkOk_by (own := [("_law_j", 19)]) (N := ["_law_script", "_law_cell", "_law_well_here", "_law_rows", "_law_columns_here", "_law_afar", "_law_one_here", "_law_other", "_law_third", "_law_due", "_law_handed", "_law_many", "_law_some", "_law_row", "_law_nearby", "_law_i", "_law_a", "_law_b", "_law_column", "_law_j"]) (sc := ({ kind := PySem.ScopeKind.function, names := [(".0", .local), ("_law_i", .cell), ("range", .globalImplicit), ("_law_many", .cell)], isGenerator := false, isCoroutine := false, more := [] })) (by decide +kernel)) (fun _ _ _ _ _ => by exact (pg_name (i := 19) sc_law.nd rfl (.inl rfl))) (fun _ _ _ _ _ => by exact pts_nil) (fun _ _ _ _ _ => by exact (pe_tup (pa_cons (pe_callTy call_int1 (by rfl) z.int (by decide +kernel) (pa_cons (pe_cmpR op_eq (pv 15) (pv 19) (nomark _)) pa_nil)) (pa_cons pe_int pa_nil)))) (by intro _; rfl))))
      (pss_one (ps_if (pt_not (pt_val (pe_lamTwo (k := 7) GT (gives_twice (by decide) z c__law_plain) hr (pa_cons (pe_lamV (T := TT11 Pt Pb) (k := 7) (t := fun _ => tCall (spUnit K) [] E0 (tCons (tVar 11) tNil)) ⟨LamX.lamS_by (by show LamX.lamSB (defScope s_law) _ = true; decide +kernel), (by intros; rfl), (fun E A out s H fl cd rm => by exact (pe_cal c_unit rm (pa_cons (pv 11) pa_nil)))⟩ TB (hm := List.mem_cons_self) (hu := hu)) (pa_cons (pv 9) pa_nil))))) (pss_one (ps_ret pe_bl)) pss_nil)))))))))))))))))))
      (pss_one (ps_ret (pe_cmpR (op_eqD hr.units) (pe_cal c_shape hr (pa_cons (pe_lst pa_nil) pa_nil)) (pe_tup (pa_cons pe_int (pa_cons pe_int pa_nil))) (nomark _))))), ?_⟩
    obtain ⟨cs, hcs⟩ := cut_ints ns (some 1) (some 3)
    have hcl := cutV_length (ns.map V.int) (some 1) (some 3)
    rw [List.length_map] at hcl
    refine ⟨_, rfl, a, ns, 0, rfl, hS, (by show 1 ≤ sizeLine; decide), fun l0 h0 => ?_⟩
    have s0 := same_new (o := .lst [V.int (ns.getD 0 0)]) h0
    refine ⟨_, rfl, _, rfl, _, rfl, a, _, rfl, sqL_ext hS (LamX.ExtN.of s0), fun l1 h1 => ?_⟩
    rw [hcs]
    rw [hcs, List.length_map] at hcl
    have s1 := same_new (o := .lst (cs.map V.int)) h1
    refine ⟨l0, l1, _, _, rfl, rfl, s1 _ _ upd_same, upd_same, Nat.le_trans (show 1 + (cs.map V.int).length ≤ 1000 by rw [List.length_map]; omega) (by decide), fun L hL => ?_⟩
    have eL : [V.int (ns.getD 0 0)] ++ cs.map V.int = (ns.getD 0 0 :: cs).map V.int := rfl
    rw [eL]
    clear eL
    have sL := same_new (o := .lst ((ns.getD 0 0 :: cs).map V.int)) hL
    have SL := s0.trans (s1.trans sL)
    refine ⟨L, rfl, ⟨_, SqL.of upd_same⟩, for_list (K := K) (a := L) (xs := (ns.getD 0 0 :: cs).map V.int) (fun i σ H' => H' L = some (.lst ((ns.getD 0 0 :: cs).map V.int)) ∧ LamX.Tabs (TT11 Pt Pb) H' ∧ ∃ y1 y2 y3 y4 y5 y6 y7 y8 y9 y10 y11 y12 y13 y14 y15 y16 y17 y18 y19 : Option V, σ = [some (.ref a), y1, y2, y3, y4, y5, y6, y7, y8, y9, y10, y11, y12, y13, y14, y15, y16, y17, y18, y19]) ⟨upd_same, LamX.Tabs.ext hT SL, none, none, none, none, none, none, none, none, none, none, none, none, none, none, none, none, none, none, none, rfl⟩ (fun i σ H' _ hP => SqL.of hP.1) (fun i x σ H0 hx hP => ?_) (fun σ H' hP => ?_)⟩
    · obtain ⟨l00, T0, y1, y2, y3, y4, y5, y6, y7, y8, y9, y10, y11, y12, y13, y14, y15, y16, y17, y18, y19, rfl⟩ := hP
      rw [List.getElem?_map] at hx
      obtain ⟨cell, _, rfl⟩ := Option.map_eq_some_iff.mp hx
      generalize (ns.getD 0 0 :: cs).map V.int = cells at *
      refine ⟨_, rfl, cell, rfl, fun ww hp H1 s1 w1 => ?_⟩
      have nL : L ≠ ww := ne_of_none l00 hp
      have T1 := LamX.Tabs.ext T0 s1
      have L1 := s1 _ _ l00
      refine ⟨_, rfl, (by show 8 ≤ sizeLine; decide), fun lr hlr => ?_⟩
      have sr := same_new (o := .lst [V.int 0, .int 1, .int 2, .int 3, .int 4, .int 2, .int 3, .int 10]) hlr
      refine ⟨ww, lr, 0, _, rfl, w1.same sr, by omega, w1.ne hlr, upd_same, by show 0 < 8; decide, by show 8 ≤ 1000; decide, fun v hv H2 d2 f2 w2 => ?_⟩
      obtain ⟨n, rfl, n10⟩ : ∃ n : Nat, v = .int (n : Nat) ∧ n ≤ 10 := by
        simp only [List.mem_cons, List.not_mem_nil, or_false] at hv
        rcases hv with rfl | rfl | rfl | rfl | rfl | rfl | rfl | rfl
        · exact ⟨0, rfl, by decide⟩
        · exact ⟨1, rfl, by decide⟩
        · exact ⟨2, rfl, by decide⟩
        · exact ⟨3, rfl, by decide⟩
        · exact ⟨4, rfl, by decide⟩
        · exact ⟨2, rfl, by decide⟩
        · exact ⟨3, rfl, by decide⟩
        · exact ⟨10, rfl, by decide⟩
      have D2 := (SameBut.of sr).trans d2
      refine ⟨(by show 8 ≤ sizeLine; decide), fun l2 hl2 => ⟨_, rfl, ww, 0 + 1, 8, rfl, (w2.same (same_new hl2)), by omega, by decide, by decide, fun r3 H3 r30 r31 d3 f3 w3 => ?_⟩⟩
      obtain ⟨k3, rfl⟩ : ∃ k : Nat, r3 = k := ⟨r3.toNat, by omega⟩
      obtain ⟨m, em, mm⟩ := pick [1, 2, 3, 4, 4, 2, 10, 1] k3 (by show k3 < 8; omega)
      have m1 : 1 ≤ m ∧ m ≤ 10 := by
        simp only [List.mem_cons, List.not_mem_nil, or_false] at mm
        omega
      have z01 : ∀ {b : Bool}, (if b = true then (1 : Int) else 0).natAbs ≤ 1 := fun {b} => by cases b <;> decide
      have tim : ∀ x : Nat, x ≤ 10 → ∃ M : Nat, (x : Int) * (if decide (0 < (n : Int)) = true then 1 else 0) = (M : Int) ∧ ((n = 0 ∧ M = 0) ∨ (0 < n ∧ M = x)) := fun x _ => by
        by_cases c : n = 0
        · exact ⟨0, by rw [if_neg (by rw [c]; decide), Int.mul_zero]; rfl, .inl ⟨c, rfl⟩⟩
        · exact ⟨x, by rw [if_pos (decide_eq_true (show 0 < (n : Int) by omega)), Int.mul_one], .inr ⟨by omega, rfl⟩⟩
      refine ⟨l2, _, (k3 : Nat), .int m, rfl, rfl, SqL.of (d3 _ _ (w2.ne hl2) upd_same), atI_nat em, ?_⟩
      refine ⟨_, rfl, _, _, rfl, rfl, .inr ⟨_, rfl, _, _, rfl, rfl, .inl ⟨?_, ?_⟩, ?_⟩⟩
      · omega
      · have := @z01 (decide (0 < (n : Int))); omega
      obtain ⟨M, eM, hM⟩ := tim m (by omega)
      have eM2 : (fun i j : Int => V.int (i * j)) (m : Int) (if decide (0 < (n : Int)) = true then 1 else 0) = V.int (M : Int) := congrArg V.int eM
      rw [eM2]
      have D3 := D2.trans ((SameBut.of (same_new hl2)).trans d3)
      refine ⟨(by show 4 ≤ sizeLine; decide), fun l4 hl4 => ⟨_, rfl, ww, 0 + 1 + 1, 4, rfl, (w3.same (same_new hl4)), by omega, by decide, by decide, fun r5 H5 r50 r51 d5 f5 w5 => ?_⟩⟩
      obtain ⟨k5, rfl⟩ : ∃ k : Nat, r5 = k := ⟨r5.toNat, by omega⟩
      obtain ⟨p, ep, pp⟩ := pick [1, 2, 3, 2] k5 (by show k5 < 4; omega)
      have p1 : 1 ≤ p ∧ p ≤ 3 := by
        simp only [List.mem_cons, List.not_mem_nil, or_false] at pp
        omega
      refine ⟨l4, _, (k5 : Nat), .int p, rfl, rfl, SqL.of (d5 _ _ (w3.ne hl4) upd_same), atI_nat ep, ?_⟩
      refine ⟨_, rfl, _, _, rfl, rfl, .inr ⟨_, rfl, _, _, rfl, rfl, .inl ⟨?_, ?_⟩, ?_⟩⟩
      · omega
      · have := @z01 (decide (0 < (n : Int))); omega
      obtain ⟨R, eR, hR⟩ := tim p (by omega)
      have eR2 : (fun i j : Int => V.int (i * j)) (p : Int) (if decide (0 < (n : Int)) = true then 1 else 0) = V.int (R : Int) := congrArg V.int eR
      rw [eR2]
      have D5 := D3.trans ((SameBut.of (same_new hl4)).trans d5)
      refine ⟨fun σ' G => G = H5 ∧ ∃ C : Nat, σ' = [some (.ref a), some (.int cell), some (.ref ww), some (.int (n : Nat)), some (.int (C : Nat)), some (.int (R : Nat)), y6, y7, y8, y9, y10, y11, y12, y13, y14, y15, y16, y17, y18, y19] ∧ C ≤ 10 ∧ (n = 0 ∧ C = 0 ∨ 0 < n ∧ 1 ≤ C), ?_, ?_⟩
      · refine ⟨_, rfl, _, rfl, _, _, rfl, rfl, .inl ⟨by omega, by omega⟩, _, _, rfl, rfl, _, rfl, ite2 (fun c1 => ?_) (fun c1 => ?_)⟩
        · refine ⟨rfl, 1, rfl, by decide, ?_⟩
          have c2 := toB c1
          have : n ≠ 0 := fun z0 => by
            rw [z0] at c2
            rw [show ((0 : Nat) : Int) * (M : Int) = 0 from Int.zero_mul _] at c2
            omega
          exact .inr ⟨by omega, Nat.le_refl 1⟩
        · exact ⟨rfl, M, rfl, by omega, by omega⟩
      rintro σ' G ⟨rfl, C, rfl, C10, hC⟩
      have W5 := w5.mono (show (0 : Int) + 1 + 1 + 1 ≤ 3 by decide)
      have DD : SameBut ww H1 G := D5
      have T5 := tabs_but T1 DD w1
      have L5 := DD _ _ nL L1
      have R3 : R ≤ 3 ∧ (n = 0 ∧ R = 0 ∨ 0 < n ∧ 1 ≤ R) := by omega
      clear hM hR eM eM2 eR eR2 tim z01 D5 D3 D2 ep pp p1 em mm m1 d2 d3 d5 f2 f3 f5 w2 w3 w5 w1 DD T1 L1 sr hlr hl2 hl4
      refine ⟨_, rfl, _, rfl, _, rfl, ww, 3, n, C, rfl, W5, by omega, n10, C10, fun pa ua A H6 hpa d6 w6 ea sa mA => ?_⟩
      have T6 := tabs_but T5 d6 W5
      refine ⟨_, rfl, _, rfl, _, rfl, ww, 3 + 1000, n, C, rfl, w6, by omega, n10, C10, fun pb ub B H7 hpb d7 w7 eb sb mB => ?_⟩
      have T7 := tabs_but T6 d7 w6
      refine ⟨_, rfl, _, rfl, _, rfl, ww, 3 + 1000 + 1000, C, R, rfl, w7, by omega, C10, by omega, fun pc uc Cc H8 hpc d8 w8 ec sc mC => ?_⟩
      have T8 := tabs_but T7 d8 w7
      have MA : MatAt H8 pa A := (MatAt.well ⟨ua, ea, sa⟩ d7 w6).well d8 w7
      have MB : MatAt H8 pb B := MatAt.well ⟨ub, eb, sb⟩ d8 w7
      have MC : MatAt H8 pc Cc := ⟨uc, ec, sc⟩
      have L8 := d8 _ _ nL (d7 _ _ nL (d6 _ _ nL L5))
      obtain ⟨va, ea8, sa8⟩ := MA
      refine ⟨_, rfl, _, rfl, ww, pa, 3 + 1000 + 1000 + 1000, va, A, rfl, w8, by omega, ea8, sa8, mA.rect n10 C10, mA.sm, T8, fun H9 x9 T9 w9 => ⟨_, rfl, iteF ?_⟩⟩
      have stay : ∀ {p : Addr} {M : List (List Rat)}, MatAt H8 p M → MatAt H9 p M := fun {p M} h => h.extW w8 x9
      have MA : MatAt H9 pa A := stay ⟨va, ea8, sa8⟩
      replace MB := stay MB
      replace MC := stay MC
      have L9 := x9 _ _ L8 nL (fun _ z => nomatch z)
      clear stay x9 w8 T8 L8 ea8 sa8 ea sa eb sb ec sc hpa hpb hpc d6 d7 d8 w6 w7 W5 T5 T6 T7 L5
      refine ⟨_, rfl, _, rfl, _, rfl, (by show 3 ≤ sizeLine; decide), fun tt htt => ?_⟩
      have st := same_new (o := .tup [.ref pa, .ref pb, .ref pc]) htt
      have get : ∀ (i : Nat) (x : V), [V.ref pa, .ref pb, .ref pc][i]? = some x → i < 3 ∧ ∃ p M, x = .ref p ∧ [A, B, Cc][i]? = some M ∧ MatAt H9 p M := fun i x hx => by
        match i, hx with
        | 0, hx => cases hx; exact ⟨by decide, pa, A, rfl, rfl, MA⟩
        | 1, hx => cases hx; exact ⟨by decide, pb, B, rfl, rfl, MB⟩
        | 2, hx => cases hx; exact ⟨by decide, pc, Cc, rfl, rfl, MC⟩
        | i + 3, hx => cases hx
      refine ⟨tt, rfl, ⟨_, SqT.of upd_same⟩, fun D hD => lc_tup (K := K) (a := tt) (xs := [.ref pa, .ref pb, .ref pc]) (fun i G => Same H9 G ∧ G tt = some (.tup [.ref pa, .ref pb, .ref pc]) ∧ ∃ hs : List Addr, G D = some (.lst (hs.map V.ref)) ∧ CopL G D hs ([A, B, Cc].take i)) ⟨st.trans (same_new hD), same_new hD _ _ upd_same, [], upd_same, rfl, fun j h M q => by cases q⟩ (fun i G _ hP => SqT.of hP.2.1) (fun i x G hx hP => ?_) (fun Gh hP => ?_)⟩
      · obtain ⟨sG, ett, hs, eD, cop⟩ := hP
        obtain ⟨i3, p, M, rfl, hM, MP⟩ := get i x hx
        obtain ⟨ws, ew, sw⟩ := MP
        have ewG := sG _ _ ew
        have swG := sw.same sG
        refine ⟨rfl, ?_⟩
        refine ⟨_, rfl, p, rfl, ⟨_, SqL.of ewG⟩, fun D4 hD4 => lc_list (K := K) (a := p) (xs := ws) (fun j Y => Same G Y ∧ ∃ vs9, Y D4 = some (.lst vs9) ∧ (∀ v ∈ vs9, v ≠ .ref D4 ∧ v ≠ .ref D) ∧ SeL Y vs9 (M.take j)) ⟨same_new hD4, [], upd_same, (fun v hv => absurd hv List.not_mem_nil), rfl, fun i r e => by rw [List.take_zero] at e; cases e⟩ (fun j Y _ hP => SqL.of (hP.1 _ _ ewG)) (fun j x Y hx hP => ?_) (fun Y hP => ?_)⟩
        · obtain ⟨sY, vs9, e9, n9, se9⟩ := hP
          obtain ⟨b, r, rfl, hr2, fb⟩ := swG.get hx
          have li := (List.getElem?_eq_some_iff.mp hr2).1
          obtain ⟨rv, hb, lb, fv⟩ := (fb.same sY).len
          refine ⟨rfl, _, rfl, b, rv, rfl, .inl (SqL.of hb), fun l hl => ?_⟩
          have sl := same_new (o := .lst rv) hl
          have e9l := sl _ _ e9
          have nl : l ≠ D4 := fun e => by
            rw [e, e9] at hl
            cases hl
          have nlD : l ≠ D := fun e => by
            rw [e, sY _ _ eD] at hl
            cases hl
          have fl9 : FrL (upd Y l (.lst rv)) l r := ⟨rv, upd_same, PrsAt.same fv sl⟩
          have l9 := se9.1
          rw [List.length_take] at l9
          refine ⟨vs9, e9l, small1000 ?_, fun c o e => ?_, vs9 ++ [.ref l], upd_same, fun v hv => ?_, ?_⟩
          · have : M.length ≤ 10 := by
              match i, i3, hM with
              | 0, _, hM => cases hM; exact (mA.rect n10 C10).n10
              | 1, _, hM => cases hM; exact (mB.rect n10 C10).n10
              | 2, _, hM => cases hM; exact (mC.rect C10 (by omega)).n10
            omega
          · rw [upd_ne (ne_of_none e hD4)]
            exact sl _ _ (sY _ _ e)
          · rcases List.mem_append.mp hv with h | h
            · exact n9 v h
            · rw [List.mem_singleton.mp h]
              exact ⟨fun z => nl (V.ref.inj z), fun z => nlD (V.ref.inj z)⟩
          · rw [show M.take (j + 1) = M.take j ++ [r] by rw [List.take_succ, hr2]; rfl]
            exact SeL.app ((se9.same sl).butN e9l (fun v hv => (n9 v hv).1) SameBut.upd) (SeL.one (fl9.but nl SameBut.upd e9l))
        · obtain ⟨sY, vs9, e9, n9, se9⟩ := hP
          rw [List.take_of_length_le (by rw [← swG.1]; exact Nat.le_refl _)] at se9
          have n4 : D4 ≠ D := fun e => by
            rw [e, eD] at hD4
            cases hD4
          have cop2 := cop.add eD sY n4 e9 (fun v hv => (n9 v hv).2) se9 (hs.map V.ref ++ [.ref D4])
          have lh := cop.1
          rw [List.length_take] at lh
          have ntt : tt ≠ D := fun e => by
            rw [e, eD] at ett
            cases ett
          refine ⟨_, sY _ _ eD, by rw [List.length_map]; exact small1000 (by omega), fun c o e => ?_, ?_, hs ++ [D4], by rw [upd_same, List.map_append]; rfl, ?_⟩
          · rw [upd_ne (ne_of_none (st _ _ e) hD)]
            exact sY _ _ (sG _ _ e)
          · rw [upd_ne ntt]
            exact sY _ _ ett
          · rw [show [A, B, Cc].take (i + 1) = [A, B, Cc].take i ++ [M] by rw [List.take_succ, hM]; rfl]
            exact cop2
      obtain ⟨sh, _, hs, eh, cop⟩ := hP
      obtain ⟨lh, ch⟩ := cop
      obtain ⟨h0, h1, h2, rfl⟩ : ∃ h0 h1 h2, hs = [h0, h1, h2] := by
        match hs, lh with
        | [x, y, zz], _ => exact ⟨x, y, zz, rfl⟩
      have Bg : BagL (TT11 Pt Pb) L ww D h0 h1 h2 pa pb pc cells A B Cc (3 + 1000 + 1000 + 1000 + 200) Gh := ⟨w9.same sh, LamX.Tabs.ext T9 sh, sh _ _ L9, eh, let ⟨_, ws, g1, _, g3⟩ := ch 0 h0 A rfl rfl; ⟨ws, g1, g3⟩, let ⟨_, ws, g1, _, g3⟩ := ch 1 h1 B rfl rfl; ⟨ws, g1, g3⟩, let ⟨_, ws, g1, _, g3⟩ := ch 2 h2 Cc rfl rfl; ⟨ws, g1, g3⟩, MA.same sh, MB.same sh, MC.same sh⟩
      clear ch lh eh sh w9 T9 L9 MA MB MC get st htt hD
      have rA := mA.rect n10 C10
      have rB := mB.rect n10 C10
      have rC := mC.rect C10 (by omega : R ≤ 10)
      obtain ⟨va, ea, sa⟩ := Bg.e0
      obtain ⟨vb, eb, sb⟩ := Bg.e1
      have lva := sa.1
      have lvb := sb.1
      have lAB : A.length = B.length := by rw [mA.len, mB.len]
      have nA10 := rA.n10
      refine ⟨_, rfl, _, rfl, pa, pb, va, vb, rfl, .inl ⟨SqL.of ea, SqL.of eb, fun D1 hD1 => ?_⟩⟩
      refine lc_it (walk_zip (K := K) (a := pa) (b := pb) (xs := va) (ys := vb) rfl) (fun i G => Same Gh G ∧ ∃ us, G D1 = some (.lst us) ∧ (∀ v ∈ us, v ≠ .ref D1) ∧ SeL G us (addM (A.take i) (B.take i))) ⟨same_new hD1, [], upd_same, (fun v hv => absurd hv List.not_mem_nil), rfl, fun i s e => by cases e⟩ (fun i G _ hP => ⟨SqL.of (hP.1 _ _ ea), SqL.of (hP.1 _ _ eb)⟩) (fun i x G G2 hi hP hY => ?_) (fun G1 hP => ?_)
      · obtain ⟨sG, us, eD, nus, se⟩ := hP
        obtain ⟨Tp, u, v, rfl, nT, rfl, e1, e2⟩ := hY
        obtain ⟨b, r, rfl, hr2, fb⟩ := sa.get e1
        obtain ⟨b', r', rfl, hr2', fb'⟩ := sb.get e2
        have sN := same_new (o := .tup [.ref b, .ref b']) nT
        have SG := sG.trans sN
        have li := (List.getElem?_eq_some_iff.mp hr2).1
        have mr := List.mem_of_getElem? hr2
        have mr' := List.mem_of_getElem? hr2'
        have wr := rA.row mr
        have wr' := rB.row mr'
        have wl := mA.wid r mr
        have wl' := mB.wid r' mr'
        obtain ⟨rv, hb, lb, fv⟩ := (fb.same SG).len
        obtain ⟨rv', hb', lb', fv'⟩ := (fb'.same SG).len
        refine ⟨Tp, _, rfl, SqT.of upd_same, rfl, _, _, rfl, _, _, rfl, rfl, rfl, ?_⟩
        refine ⟨_, rfl, _, rfl, b, b', rv, rv', rfl, .inl ⟨SqL.of hb, SqL.of hb', fun D4 hD4 => ?_⟩⟩
        refine lc_it (walk_zip (K := K) (a := b) (b := b') (xs := rv) (ys := rv') rfl) (fun j Y => Same (upd G Tp (.tup [.ref b, .ref b'])) Y ∧ FrL Y D4 (addR (r.take j) (r'.take j))) ⟨same_new hD4, [], upd_same, .nil⟩ (fun j Y _ hP => ⟨SqL.of (hP.1 _ _ hb), SqL.of (hP.1 _ _ hb')⟩) (fun j x Y Y2 hj hQ hY => ?_) (fun Y hQ => ?_)
        · obtain ⟨sY, vs, hv, fr⟩ := hQ
          obtain ⟨Tq, u, v, rfl, nT2, rfl, e3, e4⟩ := hY
          obtain ⟨p, q, rfl, hq, hp⟩ := FrsAt.get fv e3
          obtain ⟨p', q', rfl, hq', hp'⟩ := FrsAt.get fv' e4
          have sN2 := same_new (o := .tup [.ref p, .ref p']) nT2
          have SY := sY.trans sN2
          have lj := (List.getElem?_eq_some_iff.mp hq).1
          have smq := mA.sm r mr q (List.mem_of_getElem? hq)
          have smq' := mB.sm r' mr' q' (List.mem_of_getElem? hq')
          have hv2 := sN2 _ _ hv
          have lv := FrsAt.len fr
          rw [addR_len, List.length_take, List.length_take] at lv
          refine ⟨Tq, _, rfl, SqT.of upd_same, rfl, _, _, rfl, _, _, rfl, rfl, rfl, ?_⟩
          refine ⟨_, rfl, _, rfl, (by show 2 ≤ sizeLine; decide), fun l2 hl2 => ?_⟩
          have s2 := same_new (o := .lst [.ref p, .ref p']) hl2
          refine ⟨l2, _, [pr q, pr q'], 150, 310, rfl, upd_same, .cons (s2 _ _ (SY _ _ hp)) (.cons (s2 _ _ (SY _ _ hp')) .nil), by show 2 ≤ 100; decide, ⟨by decide, by decide, by decide⟩, fun k hk => ?_, sum2_ok smq smq', fun t Y3 ht st f1 => ?_⟩
          · simp only [List.mem_cons, List.not_mem_nil, or_false] at hk
            rcases hk with rfl | rfl
            · exact ⟨den_ge _, by show ((q.den : Int)).natAbs < _; rw [Int.natAbs_natCast]; exact smq.2, smq.1⟩
            · exact ⟨den_ge _, by show ((q'.den : Int)).natAbs < _; rw [Int.natAbs_natCast]; exact smq'.2, smq'.1⟩
          rw [sum2] at f1
          have hv3 := st _ _ (s2 _ _ hv2)
          refine ⟨vs, hv3, small1000 (by omega), fun c o e => ?_, vs ++ [.ref t], upd_same, ?_⟩
          · rw [upd_ne (ne_of_none e hD4)]
            exact st _ _ (s2 _ _ (SY _ _ e))
          · rw [addR_take r r' j q q' hq hq']
            refine FrsAt.app (PrsAt.but (PrsAt.same (PrsAt.same (PrsAt.same fr sN2) s2) st) SameBut.upd hv3) (FrsAt.one ?_)
            show (upd Y3 D4 _) t = _
            rw [upd_ne (ne_of f1 hv3 (fun z => nomatch z))]
            exact f1
        · obtain ⟨sY, fr⟩ := hQ
          rw [show min rv.length rv'.length = r.length by omega, List.take_length, List.take_of_length_le (by omega)] at fr
          have eDY := sY _ _ (sN _ _ eD)
          have n4 : D4 ≠ D1 := fun e => by
            rw [e, sN _ _ eD] at hD4
            cases hD4
          have lu := se.1
          rw [addM_len, List.length_take, List.length_take] at lu
          refine ⟨us, eDY, small1000 (by omega), fun c o e => ?_, us ++ [.ref D4], upd_same, fun v hv => ?_, ?_⟩
          · rw [upd_ne (ne_of_none e hD1)]
            exact sY _ _ (SG _ _ e)
          · rcases List.mem_append.mp hv with h | h
            · exact nus v h
            · rw [List.mem_singleton.mp h]
              exact fun z => n4 (V.ref.inj z)
          · rw [addM_take A B i r r' hr2 hr2']
            exact SeL.app (((se.same sN).same sY).butN eDY nus SameBut.upd) (SeL.one (fr.but n4 SameBut.upd eDY))
      obtain ⟨s1d, vd, ed, _, sD⟩ := hP
      rw [show min va.length vb.length = A.length by omega, List.take_length, List.take_of_length_le (by omega)] at sD
      replace Bg := Bg.same s1d
      clear s1d sa sb ea eb hD1 lva lvb
      have h0C : 0 < n ∨ C = 0 := by omega
      have wAB : widR A = widR B := by rw [mA.w h0C, mB.w h0C]
      refine ⟨Bg.tb, fun fl G2 e1 T1 hfl iL => ?_⟩
      replace Bg := Bg.ext e1 T1
      obtain ⟨vd1, ed1, sD1⟩ : MatAt G2 D1 (addM A B) := MatAt.ext ⟨vd, ed, sD⟩ e1
      refine ⟨_, rfl, fl, .ref D1, _, rfl, iL, fun cd => ⟨D1, vd1, addM A B, rfl, ed1, sD1, by rw [addM_len]; omega, fun s hs => ?_, fun G Q' sG k => ?_, fun G3 s3 => ⟨_, rfl, iteF ?_⟩⟩⟩
      · obtain ⟨x, hx, l⟩ := addM_mem hs
        have := (rA.row hx).2.2
        omega
      · have Bx := Bg.same sG
        have eL := Bx.eL
        exact ⟨_, rfl, D, _, 0, .ref h0, rfl, rfl, SqL.of eL, a0, _, rfl, D, _, 1, .ref h1, rfl, rfl, SqL.of eL, a1, h0, h1, A, B, rfl, Bx.d0, Bx.d1, rA, rB, lAB, wAB, mA.sm, mB.sm, k⟩
      replace Bg := Bg.same s3
      clear s3 ed1 sD1 iL hfl e1 T1 ed sD
      obtain ⟨va, ea, sa⟩ := Bg.e0
      have lva := sa.1
      refine ⟨_, rfl, pa, rfl, ⟨_, SqL.of ea⟩, fun D1 hD1 => lc_list (K := K) (a := pa) (xs := va) (fun i G => Same G3 G ∧ ∃ us, G D1 = some (.lst us) ∧ (∀ v ∈ us, v ≠ .ref D1) ∧ SeL G us (prodM (A.take i) Cc)) ⟨same_new hD1, [], upd_same, (fun v hv => absurd hv List.not_mem_nil), rfl, fun i s e => by rw [List.take_zero] at e; cases e⟩ (fun i G _ hP => SqL.of (hP.1 _ _ ea)) (fun i x G hx hP => ?_) (fun G4 hP => ?_)⟩
      · obtain ⟨sG, us, eD, nus, se⟩ := hP
        obtain ⟨b, r, rfl, hr2, fb⟩ := sa.get hx
        have li := (List.getElem?_eq_some_iff.mp hr2).1
        have mr := List.mem_of_getElem? hr2
        obtain ⟨uc, ec, sc⟩ := Bg.e2.same sG
        have lu := se.1
        unfold prodM at lu
        rw [List.length_map, List.length_take] at lu
        refine ⟨rfl, ?_⟩
        refine ⟨_, rfl, pc, uc, Cc, rfl, ec, sc, rC, fun pcol vcol Hc hpcol s5 ecol scol => ?_⟩
        have lvc := scol.1
        rw [turn_len] at lvc
        have wC10 := rC.w10
        refine ⟨pcol, rfl, ⟨_, SqL.of ecol⟩, fun D4 hD4 => lc_list (K := K) (a := pcol) (xs := vcol) (fun j Y => Same Hc Y ∧ FrL Y D4 (((turnR Cc (widR Cc)).take j).map fun s => dotR r s)) ⟨same_new hD4, [], upd_same, by rw [List.take_zero]; exact .nil⟩ (fun j Y _ hP => SqL.of (hP.1 _ _ ecol)) (fun j x Y hx hQ => ?_) (fun Y hQ => ?_)⟩
        · obtain ⟨sY, vs, hv, fr⟩ := hQ
          obtain ⟨b2, y, rfl, hy, fb2⟩ := scol.get hx
          have lj := (List.getElem?_eq_some_iff.mp hy).1
          rw [turn_len] at lj
          have my := List.mem_of_getElem? hy
          have ly := turn_row my
          have wr := mA.wid r mr
          have n0 : 0 < n := by
            have := mA.len
            split at this <;> omega
          have lC : Cc.length = C := by
            have := mC.len
            split at this <;> omega
          have smy : SmL y := by
            refine ⟨by have := rC.n10; omega, fun q hq => ?_⟩
            unfold turnR at my
            obtain ⟨t9, ht9, rfl⟩ := List.mem_map.mp my
            obtain ⟨s9, hs9, rfl⟩ := List.mem_map.mp hq
            have w9 := rC.wid s9 hs9
            have l9 := List.mem_range.mp ht9
            rw [List.getD_eq_getElem?_getD, List.getElem?_eq_getElem (by omega)]
            exact mC.sm s9 hs9 _ (List.getElem_mem _)
          have lv := FrsAt.len fr
          rw [List.length_map, List.length_take, turn_len] at lv
          refine ⟨rfl, _, rfl, _, rfl, b, b2, r, y, 300, 8010, rfl, (((fb.same sG).same s5).same sY).k, (fb2.same sY).k, dotok_small (rA.sml mA.sm mr) smy (by omega), fun p Y2 hp s9 f9 => ?_⟩
          have hv9 := s9 _ _ hv
          refine ⟨vs, hv9, small1000 (by omega), fun c o e => ?_, vs ++ [.ref p], upd_same, ?_⟩
          · rw [upd_ne (ne_of_none e hD4)]
            exact s9 _ _ (sY _ _ e)
          · rw [show (turnR Cc (widR Cc)).take (j + 1) = (turnR Cc (widR Cc)).take j ++ [y] by rw [List.take_succ, hy]; rfl, List.map_append]
            refine FrsAt.app (PrsAt.but (PrsAt.same fr s9) SameBut.upd hv9) (FrsAt.one ?_)
            show (upd Y2 D4 _) p = _
            rw [upd_ne (ne_of f9 hv9 (fun z => nomatch z))]
            exact f9
        · obtain ⟨sY, fr⟩ := hQ
          rw [List.take_of_length_le (by rw [turn_len]; omega)] at fr
          have eDY := sY _ _ (s5 _ _ eD)
          have n4 : D4 ≠ D1 := fun e => by
            rw [e, s5 _ _ eD] at hD4
            cases hD4
          refine ⟨us, eDY, small1000 (by omega), fun c o e => ?_, us ++ [.ref D4], upd_same, fun v hv => ?_, ?_⟩
          · rw [upd_ne (ne_of_none e hD1)]
            exact sY _ _ (s5 _ _ (sG _ _ e))
          · rcases List.mem_append.mp hv with h | h
            · exact nus v h
            · rw [List.mem_singleton.mp h]
              exact fun z => n4 (V.ref.inj z)
          · unfold prodM
            rw [show A.take (i + 1) = A.take i ++ [r] by rw [List.take_succ, hr2]; rfl, List.map_append]
            exact SeL.app (((se.same s5).same sY).butN eDY nus SameBut.upd) (SeL.one (fr.but n4 SameBut.upd eDY))
      obtain ⟨s4, vd, ed, _, sD⟩ := hP
      rw [List.take_of_length_le (by omega)] at sD
      replace Bg := Bg.same s4
      clear s4 sa ea hD1 lva
      refine ⟨Bg.tb, fun fl G5 e1 T1 hfl iL => ?_⟩
      replace Bg := Bg.ext e1 T1
      obtain ⟨vd1, ed1, sD1⟩ : MatAt G5 D1 (prodM A Cc) := MatAt.ext ⟨vd, ed, sD⟩ e1
      refine ⟨_, rfl, fl, .ref D1, _, rfl, iL, fun cd => ⟨D1, vd1, prodM A Cc, rfl, ed1, sD1, by unfold prodM; rw [List.length_map]; exact nA10, fun s hs => ?_, fun G Q' sG k => ?_, fun G6 s6 => ⟨_, rfl, iteF ?_⟩⟩⟩
      · unfold prodM at hs
        obtain ⟨x, hx, rfl⟩ := List.mem_map.mp hs
        rw [List.length_map, turn_len]
        exact rC.w10
      · have Bx := Bg.same sG
        have eL := Bx.eL
        exact ⟨_, rfl, D, _, 0, .ref h0, rfl, rfl, SqL.of eL, a0, _, rfl, D, _, 2, .ref h2, rfl, rfl, SqL.of eL, a2, h0, h2, A, Cc, rfl, Bx.d0, Bx.d2, rA, rC, by rw [mA.w h0C, mC.len]; split <;> omega, mA.sm, mC.sm, k⟩
      replace Bg := Bg.same s6
      clear s6 ed1 sD1 iL hfl e1 T1 ed sD
      refine ⟨_, rfl, _, rfl, _, rfl, _, rfl, (by show 3 ≤ sizeLine; decide), fun l3 hl3 => ?_⟩
      have s3 := same_new (o := .lst [.ref pa, .ref pb, .ref pc]) hl3
      replace Bg := Bg.same s3
      refine ⟨l3D A B Cc, l3D A B Cc, .lst (SqL.of Bg.eL) (.cons Bg.d0.dp (.cons Bg.d1.dp (.cons Bg.d2.dp .nil))), .lst (SqL.of upd_same) (.cons Bg.e0.dp (.cons Bg.e1.dp (.cons Bg.e2.dp .nil))), l3_shaped _ _ _, l3_shaped _ _ _, _, rfl, ?_⟩
      rw [l3_eqv]
      refine iteF ?_
      refine ⟨_, rfl, ww, 3 + 1000 + 1000 + 1000 + 200, 11, rfl, Bg.w, by omega, by decide, by decide, fun r7 H7 r70 r71 d7 f7 w7 => ?_⟩
      obtain ⟨k7, rfl⟩ : ∃ k : Nat, r7 = k := ⟨r7.toNat, by omega⟩
      have T7 := tabs_but Bg.tb d7 Bg.w
      have L7 := d7 _ _ nL Bg.l
      clear Bg s3 hl3 d7 f7 w7 rA rB rC mA mB mC
      refine ⟨_, rfl, k7, rfl, by omega, by omega, fun D2 hD2 => ?_⟩
      rw [Int.toNat_natCast]
      refine lc_range (lo := 0) (n := k7) (fun i G => Same H7 G ∧ ∃ us, G D2 = some (.lst us) ∧ (∀ v ∈ us, v ≠ .ref D2) ∧ SeL G us ((List.range i).map fun i => (List.range k7).map fun j => if i = j then 1 else 0)) ⟨same_new hD2, [], upd_same, (fun v hv => absurd hv List.not_mem_nil), rfl, fun i s e => by cases e⟩ (fun i G hi hP => ?_) (fun G8 hP => ?_)
      · obtain ⟨sG, us, eD, nus, se⟩ := hP
        have lu := se.1
        rw [List.length_map, List.length_range] at lu
        refine ⟨rfl, ?_⟩
        refine ⟨_, rfl, k7, rfl, by omega, by omega, fun D4 hD4 => ?_⟩
        rw [Int.toNat_natCast]
        refine lc_range (lo := 0) (n := k7) (fun j Y => Same G Y ∧ FrL Y D4 ((List.range j).map fun j => if i = j then 1 else 0)) ⟨same_new hD4, [], upd_same, .nil⟩ (fun j Y hj hQ => ?_) (fun Y hQ => ?_)
        · obtain ⟨sY, vs, hv, fr⟩ := hQ
          have lv := FrsAt.len fr
          rw [List.length_map, List.length_range] at lv
          refine ⟨rfl, _, rfl, _, rfl, rfl, .inr ⟨_, rfl, (by show 2 ≤ sizeLine; decide), fun t ht => ?_⟩⟩
          have eq : (if decide (V.int (0 + (i : Int)) = V.int (0 + (j : Int))) = true then (1 : Int) else 0) = (if i = j then (1 : Rat) else 0).num ∧ (if i = j then (1 : Rat) else 0).den = 1 := by
            by_cases c : i = j
            · subst c
              rw [if_pos (decide_eq_true rfl), if_pos rfl]
              exact ⟨rfl, rfl⟩
            · rw [if_neg (fun z => c (by have := V.int.inj (of_decide_eq_true z); omega)), if_neg c]
              exact ⟨rfl, rfl⟩
          have st := same_new (o := .tup [.int (if decide (V.int (0 + (i : Int)) = V.int (0 + (j : Int))) = true then 1 else 0), .int 1]) ht
          have hv2 := st _ _ hv
          have nt : t ≠ D4 := fun e => by
            rw [e, hv] at ht
            cases ht
          refine ⟨vs, hv2, small1000 (by omega), fun c o e => ?_, vs ++ [.ref t], upd_same, ?_⟩
          · rw [upd_ne (ne_of_none e hD4)]
            exact st _ _ (sY _ _ e)
          · rw [List.range_succ, List.map_append]
            refine FrsAt.app (PrsAt.but (PrsAt.same fr st) SameBut.upd hv2) (FrsAt.one ?_)
            show (upd (upd Y t _) D4 _) t = _
            rw [upd_ne nt, upd_same, eq.1, eq.2]
            rfl
        · obtain ⟨sY, fr⟩ := hQ
          have eDY := sY _ _ eD
          have n4 : D4 ≠ D2 := fun e => by
            rw [e, eD] at hD4
            cases hD4
          refine ⟨us, eDY, small1000 (by omega), fun c o e => ?_, us ++ [.ref D4], upd_same, fun v hv => ?_, ?_⟩
          · rw [upd_ne (ne_of_none e hD2)]
            exact sY _ _ (sG _ _ e)
          · rcases List.mem_append.mp hv with h | h
            · exact nus v h
            · rw [List.mem_singleton.mp h]
              exact fun z => n4 (V.ref.inj z)
          · rw [List.range_succ, List.map_append]
            exact SeL.app ((se.same sY).butN eDY nus SameBut.upd) (SeL.one (fr.but n4 SameBut.upd eDY))
      obtain ⟨s8, vd, ed, _, sD⟩ := hP
      have T8 := LamX.Tabs.ext T7 s8
      have L8 := s8 _ _ L7
      refine ⟨T8, fun fl G9 e1 T1 hfl iL => ?_⟩
      obtain ⟨vd1, ed1, sD1⟩ : MatAt G9 D2 (unitR k7) := MatAt.ext ⟨vd, ed, sD⟩ e1
      refine ⟨_, rfl, fl, .ref D2, _, rfl, iL, fun cd => ⟨D2, vd1, unitR k7, rfl, ed1, sD1, by unfold unitR; rw [List.length_map, List.length_range]; omega, fun s hs => ?_, fun G Q' sG k => ⟨_, rfl, k7, rfl, by omega, k⟩, fun Ga sa => ⟨_, rfl, iteF ?_⟩⟩⟩
      · unfold unitR at hs
        obtain ⟨x, hx, rfl⟩ := List.mem_map.mp hs
        rw [List.length_map, List.length_range]
        omega
      exact ⟨sa _ _ (e1 _ _ L8 (fun _ z => nomatch z)), LamX.Tabs.ext T1 sa, _, _, _, _, _, _, _, _, _, _, _, _, _, _, _, _, _, _, _, rfl⟩
    · refine ⟨(by show 0 ≤ sizeLine; decide), fun e0 he0 => ?_⟩
      have s0 := same_new (o := .lst []) he0
      refine ⟨e0, [], [], rfl, upd_same, ⟨rfl, fun i s e => by cases e⟩, ⟨by decide, fun s hs => (by cases hs), fun e => absurd rfl e⟩, fun p G hp s1 ep => ?_⟩
      refine ⟨(by show 2 ≤ sizeLine; decide), fun p2 hp2 => ?_⟩
      have s2 := same_new (o := .tup [.int 0, .int 0]) hp2
      refine ⟨.tuple [.int 0, .int 0], .tuple [.int 0, .int 0], .tup (SqT.of (s2 _ _ ep)) (.cons (.int _) (.cons (.int _) .nil)), .tup (SqT.of upd_same) (.cons (.int _) (.cons (.int _) .nil)), rfl, rfl, ?_⟩
      rw [tup_eqv]
      exact q _
end
end E1

namespace E1
open PySem PySem.Spec PyProof.Rows L2
theorem tabs0 {H : Hp} {P1 P2 : Addr} (h1 : H P1 = some (.tbl #[])) (h2 : H P2 = some (.tbl #[])) : LamX.Tabs (TT11 P1 P2) H := fun p hp => by
  rcases List.mem_cons.mp hp with rfl | hp
  · exact ⟨_, h1, (by first | exact trivial | decide | exact .nil), fun _ _ z => by cases z⟩
  · rw [List.mem_singleton.mp hp]
    exact ⟨_, h2, (by first | exact trivial | decide | exact .nil), fun _ _ z => by cases z⟩
theorem gotTwo_of {K : PySem.W.Frag} {mg : Str → Option Value} {x a b : Str} {st : Stmt} {Ng : List Str} {g : Addr} {fd : FuncData} (F : Fun K x x st g fd) (gm : mg x = some (.ref g)) (hb : Binds K fd [a, b] []) (sc : FnScope Ng [a, b] (defScope st)) (n0 : Ng[0]? = some a) (vs : Vis (defScope st) a) : ∃ cdg, GotTwo K mg x a b st Ng g cdg := by
  have kp := F.kp
  obtain ⟨_, _, _, _, _, _, cdv, _, _, e, l1, l2⟩ := F.ex
  subst e
  exact ⟨cdv, gm, kp, ⟨_, _, _, _, _, _, _, _, _, l1, hb⟩, l2, sc, n0, vs⟩
theorem all_mk {l : PySem.W.OpenLaw} {w : World} {K : PySem.W.Frag} {h : Heap} {mg : Str → Option Value} {fa : Addr} {f_is_whole f_is_fraction f_shared_divisor f_lowest f_plus f_times f_is_fractions f_common_bottom f_cleared f_dot f_is_row f_is_matrix f_shape_of f_turned_over f_is_list_of f_check_matrix f_check_list f_shape f_unit f_mirrored f_sum_of f_met f_product f_scaled f_led f__law_cell_at f__law_well f__law_draw f__law_one f__law_low f__law_sum f__law_dot f__law_great f__law_place f__law_matrix f__law_plain f__law_twice f__law_columns f_by c_by P_by f_law c_law P_law A_NOUGHT A_ONE : Addr} (X : K.In h) (G : h.Ns mainGlobals mg) (hfa : mg "law" = some (.ref fa))
    {od_is_whole an_is_whole : Option Addr} {sl_is_whole : Array (Option Value)} {oc_is_whole kV_is_whole dc_is_whole pm_is_whole cd_is_whole ct_is_whole : Value}
    (a_is_whole : PySem.W.nsIn K mainGlobals "is_whole" = some (some (.ref f_is_whole)))
    (l_is_whole : K.lookup f_is_whole = some ⟨oc_is_whole, od_is_whole, .func (PySem.W.fnOf "is_whole" "is_whole" (defArgs s_is_whole) (defBody s_is_whole) (defScope s_is_whole) .none kV_is_whole dc_is_whole pm_is_whole an_is_whole cd_is_whole ct_is_whole), sl_is_whole⟩)
    (c_is_whole : PySem.W.codeIn K cd_is_whole "is_whole" = true)
    (k_is_whole : PySem.W.keepIn K (.ref f_is_whole) = true)
    {od_is_fraction an_is_fraction : Option Addr} {sl_is_fraction : Array (Option Value)} {oc_is_fraction kV_is_fraction dc_is_fraction pm_is_fraction cd_is_fraction ct_is_fraction : Value}
    (a_is_fraction : PySem.W.nsIn K mainGlobals "is_fraction" = some (some (.ref f_is_fraction)))
    (l_is_fraction : K.lookup f_is_fraction = some ⟨oc_is_fraction, od_is_fraction, .func (PySem.W.fnOf "is_fraction" "is_fraction" (defArgs s_is_fraction) (defBody s_is_fraction) (defScope s_is_fraction) .none kV_is_fraction dc_is_fraction pm_is_fraction an_is_fraction cd_is_fraction ct_is_fraction), sl_is_fraction⟩)
    (c_is_fraction : PySem.W.codeIn K cd_is_fraction "is_fraction" = true)
    (k_is_fraction : PySem.W.keepIn K (.ref f_is_fraction) = true)
    {od_shared_divisor an_shared_divisor : Option Addr} {sl_shared_divisor : Array (Option Value)} {oc_shared_divisor kV_shared_divisor dc_shared_divisor pm_shared_divisor cd_shared_divisor ct_shared_divisor : Value}
    (a_shared_divisor : PySem.W.nsIn K mainGlobals "shared_divisor" = some (some (.ref f_shared_divisor)))
    (l_shared_divisor : K.lookup f_shared_divisor = some ⟨oc_shared_divisor, od_shared_divisor, .func (PySem.W.fnOf "shared_divisor" "shared_divisor" (defArgs s_shared_divisor) (defBody s_shared_divisor) (defScope s_shared_divisor) .none kV_shared_divisor dc_shared_divisor pm_shared_divisor an_shared_divisor cd_shared_divisor ct_shared_divisor), sl_shared_divisor⟩)
    (c_shared_divisor : PySem.W.codeIn K cd_shared_divisor "shared_divisor" = true)
    (k_shared_divisor : PySem.W.keepIn K (.ref f_shared_divisor) = true)
    {od_lowest an_lowest : Option Addr} {sl_lowest : Array (Option Value)} {oc_lowest kV_lowest dc_lowest pm_lowest cd_lowest ct_lowest : Value}
    (a_lowest : PySem.W.nsIn K mainGlobals "lowest" = some (some (.ref f_lowest)))
    (l_lowest : K.lookup f_lowest = some ⟨oc_lowest, od_lowest, .func (PySem.W.fnOf "lowest" "lowest" (defArgs s_lowest) (defBody s_lowest) (defScope s_lowest) .none kV_lowest dc_lowest pm_lowest an_lowest cd_lowest ct_lowest), sl_lowest⟩)
    (c_lowest : PySem.W.codeIn K cd_lowest "lowest" = true)
    (k_lowest : PySem.W.keepIn K (.ref f_lowest) = true)
    {od_plus an_plus : Option Addr} {sl_plus : Array (Option Value)} {oc_plus kV_plus dc_plus pm_plus cd_plus ct_plus : Value}
    (a_plus : PySem.W.nsIn K mainGlobals "plus" = some (some (.ref f_plus)))
    (l_plus : K.lookup f_plus = some ⟨oc_plus, od_plus, .func (PySem.W.fnOf "plus" "plus" (defArgs s_plus) (defBody s_plus) (defScope s_plus) .none kV_plus dc_plus pm_plus an_plus cd_plus ct_plus), sl_plus⟩)
    (c_plus : PySem.W.codeIn K cd_plus "plus" = true)
    (k_plus : PySem.W.keepIn K (.ref f_plus) = true)
    {od_times an_times : Option Addr} {sl_times : Array (Option Value)} {oc_times kV_times dc_times pm_times cd_times ct_times : Value}
    (a_times : PySem.W.nsIn K mainGlobals "times" = some (some (.ref f_times)))
    (l_times : K.lookup f_times = some ⟨oc_times, od_times, .func (PySem.W.fnOf "times" "times" (defArgs s_times) (defBody s_times) (defScope s_times) .none kV_times dc_times pm_times an_times cd_times ct_times), sl_times⟩)
    (c_times : PySem.W.codeIn K cd_times "times" = true)
    (k_times : PySem.W.keepIn K (.ref f_times) = true)
    {od_is_fractions an_is_fractions : Option Addr} {sl_is_fractions : Array (Option Value)} {oc_is_fractions kV_is_fractions dc_is_fractions pm_is_fractions cd_is_fractions ct_is_fractions : Value}
    (a_is_fractions : PySem.W.nsIn K mainGlobals "is_fractions" = some (some (.ref f_is_fractions)))
    (l_is_fractions : K.lookup f_is_fractions = some ⟨oc_is_fractions, od_is_fractions, .func (PySem.W.fnOf "is_fractions" "is_fractions" (defArgs s_is_fractions) (defBody s_is_fractions) (defScope s_is_fractions) .none kV_is_fractions dc_is_fractions pm_is_fractions an_is_fractions cd_is_fractions ct_is_fractions), sl_is_fractions⟩)
    (c_is_fractions : PySem.W.codeIn K cd_is_fractions "is_fractions" = true)
    (k_is_fractions : PySem.W.keepIn K (.ref f_is_fractions) = true)
    {od_common_bottom an_common_bottom : Option Addr} {sl_common_bottom : Array (Option Value)} {oc_common_bottom kV_common_bottom dc_common_bottom pm_common_bottom cd_common_bottom ct_common_bottom : Value}
    (a_common_bottom : PySem.W.nsIn K mainGlobals "common_bottom" = some (some (.ref f_common_bottom)))
    (l_common_bottom : K.lookup f_common_bottom = some ⟨oc_common_bottom, od_common_bottom, .func (PySem.W.fnOf "common_bottom" "common_bottom" (defArgs s_common_bottom) (defBody s_common_bottom) (defScope s_common_bottom) .none kV_common_bottom dc_common_bottom pm_common_bottom an_common_bottom cd_common_bottom ct_common_bottom), sl_common_bottom⟩)
    (c_common_bottom : PySem.W.codeIn K cd_common_bottom "common_bottom" = true)
    (k_common_bottom : PySem.W.keepIn K (.ref f_common_bottom) = true)
    {od_cleared an_cleared : Option Addr} {sl_cleared : Array (Option Value)} {oc_cleared kV_cleared dc_cleared pm_cleared cd_cleared ct_cleared : Value}
    (a_cleared : PySem.W.nsIn K mainGlobals "cleared" = some (some (.ref f_cleared)))
    (l_cleared : K.lookup f_cleared = some ⟨oc_cleared, od_cleared, .func (PySem.W.fnOf "cleared" "cleared" (defArgs s_cleared) (defBody s_cleared) (defScope s_cleared) .none kV_cleared dc_cleared pm_cleared an_cleared cd_cleared ct_cleared), sl_cleared⟩)
    (c_cleared : PySem.W.codeIn K cd_cleared "cleared" = true)
    (k_cleared : PySem.W.keepIn K (.ref f_cleared) = true)
    {od_dot an_dot : Option Addr} {sl_dot : Array (Option Value)} {oc_dot kV_dot dc_dot pm_dot cd_dot ct_dot : Value}
    (a_dot : PySem.W.nsIn K mainGlobals "dot" = some (some (.ref f_dot)))
    (l_dot : K.lookup f_dot = some ⟨oc_dot, od_dot, .func (PySem.W.fnOf "dot" "dot" (defArgs s_dot) (defBody s_dot) (defScope s_dot) .none kV_dot dc_dot pm_dot an_dot cd_dot ct_dot), sl_dot⟩)
    (c_dot : PySem.W.codeIn K cd_dot "dot" = true)
    (k_dot : PySem.W.keepIn K (.ref f_dot) = true)
    {od_is_row an_is_row : Option Addr} {sl_is_row : Array (Option Value)} {oc_is_row kV_is_row dc_is_row pm_is_row cd_is_row ct_is_row : Value}
    (a_is_row : PySem.W.nsIn K mainGlobals "is_row" = some (some (.ref f_is_row)))
    (l_is_row : K.lookup f_is_row = some ⟨oc_is_row, od_is_row, .func (PySem.W.fnOf "is_row" "is_row" (defArgs s_is_row) (defBody s_is_row) (defScope s_is_row) .none kV_is_row dc_is_row pm_is_row an_is_row cd_is_row ct_is_row), sl_is_row⟩)
    (c_is_row : PySem.W.codeIn K cd_is_row "is_row" = true)
    (k_is_row : PySem.W.keepIn K (.ref f_is_row) = true)
    {od_is_matrix an_is_matrix : Option Addr} {sl_is_matrix : Array (Option Value)} {oc_is_matrix kV_is_matrix dc_is_matrix pm_is_matrix cd_is_matrix ct_is_matrix : Value}
    (a_is_matrix : PySem.W.nsIn K mainGlobals "is_matrix" = some (some (.ref f_is_matrix)))
    (l_is_matrix : K.lookup f_is_matrix = some ⟨oc_is_matrix, od_is_matrix, .func (PySem.W.fnOf "is_matrix" "is_matrix" (defArgs s_is_matrix) (defBody s_is_matrix) (defScope s_is_matrix) .none kV_is_matrix dc_is_matrix pm_is_matrix an_is_matrix cd_is_matrix ct_is_matrix), sl_is_matrix⟩)
    (c_is_matrix : PySem.W.codeIn K cd_is_matrix "is_matrix" = true)
    (k_is_matrix : PySem.W.keepIn K (.ref f_is_matrix) = true)
    {od_shape_of an_shape_of : Option Addr} {sl_shape_of : Array (Option Value)} {oc_shape_of kV_shape_of dc_shape_of pm_shape_of cd_shape_of ct_shape_of : Value}
    (a_shape_of : PySem.W.nsIn K mainGlobals "shape_of" = some (some (.ref f_shape_of)))
    (l_shape_of : K.lookup f_shape_of = some ⟨oc_shape_of, od_shape_of, .func (PySem.W.fnOf "shape_of" "shape_of" (defArgs s_shape_of) (defBody s_shape_of) (defScope s_shape_of) .none kV_shape_of dc_shape_of pm_shape_of an_shape_of cd_shape_of ct_shape_of), sl_shape_of⟩)
    (c_shape_of : PySem.W.codeIn K cd_shape_of "shape_of" = true)
    (k_shape_of : PySem.W.keepIn K (.ref f_shape_of) = true)
    {od_turned_over an_turned_over : Option Addr} {sl_turned_over : Array (Option Value)} {oc_turned_over kV_turned_over dc_turned_over pm_turned_over cd_turned_over ct_turned_over : Value}
    (a_turned_over : PySem.W.nsIn K mainGlobals "turned_over" = some (some (.ref f_turned_over)))
    (l_turned_over : K.lookup f_turned_over = some ⟨oc_turned_over, od_turned_over, .func (PySem.W.fnOf "turned_over" "turned_over" (defArgs s_turned_over) (defBody s_turned_over) (defScope s_turned_over) .none kV_turned_over dc_turned_over pm_turned_over an_turned_over cd_turned_over ct_turned_over), sl_turned_over⟩)
    (c_turned_over : PySem.W.codeIn K cd_turned_over "turned_over" = true)
    (k_turned_over : PySem.W.keepIn K (.ref f_turned_over) = true)
    {od_is_list_of an_is_list_of : Option Addr} {sl_is_list_of : Array (Option Value)} {oc_is_list_of kV_is_list_of dc_is_list_of pm_is_list_of cd_is_list_of ct_is_list_of : Value}
    (a_is_list_of : PySem.W.nsIn K mainGlobals "is_list_of" = some (some (.ref f_is_list_of)))
    (l_is_list_of : K.lookup f_is_list_of = some ⟨oc_is_list_of, od_is_list_of, .func (PySem.W.fnOf "is_list_of" "is_list_of" (defArgs s_is_list_of) (defBody s_is_list_of) (defScope s_is_list_of) .none kV_is_list_of dc_is_list_of pm_is_list_of an_is_list_of cd_is_list_of ct_is_list_of), sl_is_list_of⟩)
    (c_is_list_of : PySem.W.codeIn K cd_is_list_of "is_list_of" = true)
    (k_is_list_of : PySem.W.keepIn K (.ref f_is_list_of) = true)
    {od_check_matrix an_check_matrix : Option Addr} {sl_check_matrix : Array (Option Value)} {oc_check_matrix kV_check_matrix dc_check_matrix pm_check_matrix cd_check_matrix ct_check_matrix : Value}
    (a_check_matrix : PySem.W.nsIn K mainGlobals "check_matrix" = some (some (.ref f_check_matrix)))
    (l_check_matrix : K.lookup f_check_matrix = some ⟨oc_check_matrix, od_check_matrix, .func (PySem.W.fnOf "check_matrix" "check_matrix" (defArgs s_check_matrix) (defBody s_check_matrix) (defScope s_check_matrix) .none kV_check_matrix dc_check_matrix pm_check_matrix an_check_matrix cd_check_matrix ct_check_matrix), sl_check_matrix⟩)
    (c_check_matrix : PySem.W.codeIn K cd_check_matrix "check_matrix" = true)
    (k_check_matrix : PySem.W.keepIn K (.ref f_check_matrix) = true)
    {od_check_list an_check_list : Option Addr} {sl_check_list : Array (Option Value)} {oc_check_list kV_check_list dc_check_list pm_check_list cd_check_list ct_check_list : Value}
    (a_check_list : PySem.W.nsIn K mainGlobals "check_list" = some (some (.ref f_check_list)))
    (l_check_list : K.lookup f_check_list = some ⟨oc_check_list, od_check_list, .func (PySem.W.fnOf "check_list" "check_list" (defArgs s_check_list) (defBody s_check_list) (defScope s_check_list) .none kV_check_list dc_check_list pm_check_list an_check_list cd_check_list ct_check_list), sl_check_list⟩)
    (c_check_list : PySem.W.codeIn K cd_check_list "check_list" = true)
    (k_check_list : PySem.W.keepIn K (.ref f_check_list) = true)
    {od_shape an_shape : Option Addr} {sl_shape : Array (Option Value)} {oc_shape kV_shape dc_shape pm_shape cd_shape ct_shape : Value}
    (a_shape : PySem.W.nsIn K mainGlobals "shape" = some (some (.ref f_shape)))
    (l_shape : K.lookup f_shape = some ⟨oc_shape, od_shape, .func (PySem.W.fnOf "shape" "shape" (defArgs s_shape) (defBody s_shape) (defScope s_shape) .none kV_shape dc_shape pm_shape an_shape cd_shape ct_shape), sl_shape⟩)
    (c_shape : PySem.W.codeIn K cd_shape "shape" = true)
    (k_shape : PySem.W.keepIn K (.ref f_shape) = true)
    {od_unit an_unit : Option Addr} {sl_unit : Array (Option Value)} {oc_unit kV_unit dc_unit pm_unit cd_unit ct_unit : Value}
    (a_unit : PySem.W.nsIn K mainGlobals "unit" = some (some (.ref f_unit)))
    (l_unit : K.lookup f_unit = some ⟨oc_unit, od_unit, .func (PySem.W.fnOf "unit" "unit" (defArgs s_unit) (defBody s_unit) (defScope s_unit) .none kV_unit dc_unit pm_unit an_unit cd_unit ct_unit), sl_unit⟩)
    (c_unit : PySem.W.codeIn K cd_unit "unit" = true)
    (k_unit : PySem.W.keepIn K (.ref f_unit) = true)
    {od_mirrored an_mirrored : Option Addr} {sl_mirrored : Array (Option Value)} {oc_mirrored kV_mirrored dc_mirrored pm_mirrored cd_mirrored ct_mirrored : Value}
    (a_mirrored : PySem.W.nsIn K mainGlobals "mirrored" = some (some (.ref f_mirrored)))
    (l_mirrored : K.lookup f_mirrored = some ⟨oc_mirrored, od_mirrored, .func (PySem.W.fnOf "mirrored" "mirrored" (defArgs s_mirrored) (defBody s_mirrored) (defScope s_mirrored) .none kV_mirrored dc_mirrored pm_mirrored an_mirrored cd_mirrored ct_mirrored), sl_mirrored⟩)
    (c_mirrored : PySem.W.codeIn K cd_mirrored "mirrored" = true)
    (k_mirrored : PySem.W.keepIn K (.ref f_mirrored) = true)
    {od_sum_of an_sum_of : Option Addr} {sl_sum_of : Array (Option Value)} {oc_sum_of kV_sum_of dc_sum_of pm_sum_of cd_sum_of ct_sum_of : Value}
    (a_sum_of : PySem.W.nsIn K mainGlobals "sum_of" = some (some (.ref f_sum_of)))
    (l_sum_of : K.lookup f_sum_of = some ⟨oc_sum_of, od_sum_of, .func (PySem.W.fnOf "sum_of" "sum_of" (defArgs s_sum_of) (defBody s_sum_of) (defScope s_sum_of) .none kV_sum_of dc_sum_of pm_sum_of an_sum_of cd_sum_of ct_sum_of), sl_sum_of⟩)
    (c_sum_of : PySem.W.codeIn K cd_sum_of "sum_of" = true)
    (k_sum_of : PySem.W.keepIn K (.ref f_sum_of) = true)
    {od_met an_met : Option Addr} {sl_met : Array (Option Value)} {oc_met kV_met dc_met pm_met cd_met ct_met : Value}
    (a_met : PySem.W.nsIn K mainGlobals "met" = some (some (.ref f_met)))
    (l_met : K.lookup f_met = some ⟨oc_met, od_met, .func (PySem.W.fnOf "met" "met" (defArgs s_met) (defBody s_met) (defScope s_met) .none kV_met dc_met pm_met an_met cd_met ct_met), sl_met⟩)
    (c_met : PySem.W.codeIn K cd_met "met" = true)
    (k_met : PySem.W.keepIn K (.ref f_met) = true)
    {od_product an_product : Option Addr} {sl_product : Array (Option Value)} {oc_product kV_product dc_product pm_product cd_product ct_product : Value}
    (a_product : PySem.W.nsIn K mainGlobals "product" = some (some (.ref f_product)))
    (l_product : K.lookup f_product = some ⟨oc_product, od_product, .func (PySem.W.fnOf "product" "product" (defArgs s_product) (defBody s_product) (defScope s_product) .none kV_product dc_product pm_product an_product cd_product ct_product), sl_product⟩)
    (c_product : PySem.W.codeIn K cd_product "product" = true)
    (k_product : PySem.W.keepIn K (.ref f_product) = true)
    {od_scaled an_scaled : Option Addr} {sl_scaled : Array (Option Value)} {oc_scaled kV_scaled dc_scaled pm_scaled cd_scaled ct_scaled : Value}
    (a_scaled : PySem.W.nsIn K mainGlobals "scaled" = some (some (.ref f_scaled)))
    (l_scaled : K.lookup f_scaled = some ⟨oc_scaled, od_scaled, .func (PySem.W.fnOf "scaled" "scaled" (defArgs s_scaled) (defBody s_scaled) (defScope s_scaled) .none kV_scaled dc_scaled pm_scaled an_scaled cd_scaled ct_scaled), sl_scaled⟩)
    (c_scaled : PySem.W.codeIn K cd_scaled "scaled" = true)
    (k_scaled : PySem.W.keepIn K (.ref f_scaled) = true)
    {od_led an_led : Option Addr} {sl_led : Array (Option Value)} {oc_led kV_led dc_led pm_led cd_led ct_led : Value}
    (a_led : PySem.W.nsIn K mainGlobals "led" = some (some (.ref f_led)))
    (l_led : K.lookup f_led = some ⟨oc_led, od_led, .func (PySem.W.fnOf "led" "led" (defArgs s_led) (defBody s_led) (defScope s_led) .none kV_led dc_led pm_led an_led cd_led ct_led), sl_led⟩)
    (c_led : PySem.W.codeIn K cd_led "led" = true)
    (k_led : PySem.W.keepIn K (.ref f_led) = true)
    {od__law_cell_at an__law_cell_at : Option Addr} {sl__law_cell_at : Array (Option Value)} {oc__law_cell_at kV__law_cell_at dc__law_cell_at pm__law_cell_at cd__law_cell_at ct__law_cell_at : Value}
    (a__law_cell_at : PySem.W.nsIn K mainGlobals "_law_cell_at" = some (some (.ref f__law_cell_at)))
    (l__law_cell_at : K.lookup f__law_cell_at = some ⟨oc__law_cell_at, od__law_cell_at, .func (PySem.W.fnOf "_law_cell_at" "_law_cell_at" (defArgs s__law_cell_at) (defBody s__law_cell_at) (defScope s__law_cell_at) .none kV__law_cell_at dc__law_cell_at pm__law_cell_at an__law_cell_at cd__law_cell_at ct__law_cell_at), sl__law_cell_at⟩)
    (c__law_cell_at : PySem.W.codeIn K cd__law_cell_at "_law_cell_at" = true)
    (k__law_cell_at : PySem.W.keepIn K (.ref f__law_cell_at) = true)
    {od__law_well an__law_well : Option Addr} {sl__law_well : Array (Option Value)} {oc__law_well kV__law_well dc__law_well pm__law_well cd__law_well ct__law_well : Value}
    (a__law_well : PySem.W.nsIn K mainGlobals "_law_well" = some (some (.ref f__law_well)))
    (l__law_well : K.lookup f__law_well = some ⟨oc__law_well, od__law_well, .func (PySem.W.fnOf "_law_well" "_law_well" (defArgs s__law_well) (defBody s__law_well) (defScope s__law_well) .none kV__law_well dc__law_well pm__law_well an__law_well cd__law_well ct__law_well), sl__law_well⟩)
    (c__law_well : PySem.W.codeIn K cd__law_well "_law_well" = true)
    (k__law_well : PySem.W.keepIn K (.ref f__law_well) = true)
    {od__law_draw an__law_draw : Option Addr} {sl__law_draw : Array (Option Value)} {oc__law_draw kV__law_draw dc__law_draw pm__law_draw cd__law_draw ct__law_draw : Value}
    (a__law_draw : PySem.W.nsIn K mainGlobals "_law_draw" = some (some (.ref f__law_draw)))
    (l__law_draw : K.lookup f__law_draw = some ⟨oc__law_draw, od__law_draw, .func (PySem.W.fnOf "_law_draw" "_law_draw" (defArgs s__law_draw) (defBody s__law_draw) (defScope s__law_draw) .none kV__law_draw dc__law_draw pm__law_draw an__law_draw cd__law_draw ct__law_draw), sl__law_draw⟩)
    (c__law_draw : PySem.W.codeIn K cd__law_draw "_law_draw" = true)
    (k__law_draw : PySem.W.keepIn K (.ref f__law_draw) = true)
    {od__law_one an__law_one : Option Addr} {sl__law_one : Array (Option Value)} {oc__law_one kV__law_one dc__law_one pm__law_one cd__law_one ct__law_one : Value}
    (a__law_one : PySem.W.nsIn K mainGlobals "_law_one" = some (some (.ref f__law_one)))
    (l__law_one : K.lookup f__law_one = some ⟨oc__law_one, od__law_one, .func (PySem.W.fnOf "_law_one" "_law_one" (defArgs s__law_one) (defBody s__law_one) (defScope s__law_one) .none kV__law_one dc__law_one pm__law_one an__law_one cd__law_one ct__law_one), sl__law_one⟩)
    (c__law_one : PySem.W.codeIn K cd__law_one "_law_one" = true)
    (k__law_one : PySem.W.keepIn K (.ref f__law_one) = true)
    {od__law_low an__law_low : Option Addr} {sl__law_low : Array (Option Value)} {oc__law_low kV__law_low dc__law_low pm__law_low cd__law_low ct__law_low : Value}
    (a__law_low : PySem.W.nsIn K mainGlobals "_law_low" = some (some (.ref f__law_low)))
    (l__law_low : K.lookup f__law_low = some ⟨oc__law_low, od__law_low, .func (PySem.W.fnOf "_law_low" "_law_low" (defArgs s__law_low) (defBody s__law_low) (defScope s__law_low) .none kV__law_low dc__law_low pm__law_low an__law_low cd__law_low ct__law_low), sl__law_low⟩)
    (c__law_low : PySem.W.codeIn K cd__law_low "_law_low" = true)
    (k__law_low : PySem.W.keepIn K (.ref f__law_low) = true)
    {od__law_sum an__law_sum : Option Addr} {sl__law_sum : Array (Option Value)} {oc__law_sum kV__law_sum dc__law_sum pm__law_sum cd__law_sum ct__law_sum : Value}
    (a__law_sum : PySem.W.nsIn K mainGlobals "_law_sum" = some (some (.ref f__law_sum)))
    (l__law_sum : K.lookup f__law_sum = some ⟨oc__law_sum, od__law_sum, .func (PySem.W.fnOf "_law_sum" "_law_sum" (defArgs s__law_sum) (defBody s__law_sum) (defScope s__law_sum) .none kV__law_sum dc__law_sum pm__law_sum an__law_sum cd__law_sum ct__law_sum), sl__law_sum⟩)
    (c__law_sum : PySem.W.codeIn K cd__law_sum "_law_sum" = true)
    (k__law_sum : PySem.W.keepIn K (.ref f__law_sum) = true)
    {od__law_dot an__law_dot : Option Addr} {sl__law_dot : Array (Option Value)} {oc__law_dot kV__law_dot dc__law_dot pm__law_dot cd__law_dot ct__law_dot : Value}
    (a__law_dot : PySem.W.nsIn K mainGlobals "_law_dot" = some (some (.ref f__law_dot)))
    (l__law_dot : K.lookup f__law_dot = some ⟨oc__law_dot, od__law_dot, .func (PySem.W.fnOf "_law_dot" "_law_dot" (defArgs s__law_dot) (defBody s__law_dot) (defScope s__law_dot) .none kV__law_dot dc__law_dot pm__law_dot an__law_dot cd__law_dot ct__law_dot), sl__law_dot⟩)
    (c__law_dot : PySem.W.codeIn K cd__law_dot "_law_dot" = true)
    (k__law_dot : PySem.W.keepIn K (.ref f__law_dot) = true)
    {od__law_great an__law_great : Option Addr} {sl__law_great : Array (Option Value)} {oc__law_great kV__law_great dc__law_great pm__law_great cd__law_great ct__law_great : Value}
    (a__law_great : PySem.W.nsIn K mainGlobals "_law_great" = some (some (.ref f__law_great)))
    (l__law_great : K.lookup f__law_great = some ⟨oc__law_great, od__law_great, .func (PySem.W.fnOf "_law_great" "_law_great" (defArgs s__law_great) (defBody s__law_great) (defScope s__law_great) .none kV__law_great dc__law_great pm__law_great an__law_great cd__law_great ct__law_great), sl__law_great⟩)
    (c__law_great : PySem.W.codeIn K cd__law_great "_law_great" = true)
    (k__law_great : PySem.W.keepIn K (.ref f__law_great) = true)
    {od__law_place an__law_place : Option Addr} {sl__law_place : Array (Option Value)} {oc__law_place kV__law_place dc__law_place pm__law_place cd__law_place ct__law_place : Value}
    (a__law_place : PySem.W.nsIn K mainGlobals "_law_place" = some (some (.ref f__law_place)))
    (l__law_place : K.lookup f__law_place = some ⟨oc__law_place, od__law_place, .func (PySem.W.fnOf "_law_place" "_law_place" (defArgs s__law_place) (defBody s__law_place) (defScope s__law_place) .none kV__law_place dc__law_place pm__law_place an__law_place cd__law_place ct__law_place), sl__law_place⟩)
    (c__law_place : PySem.W.codeIn K cd__law_place "_law_place" = true)
    (k__law_place : PySem.W.keepIn K (.ref f__law_place) = true)
    {od__law_matrix an__law_matrix : Option Addr} {sl__law_matrix : Array (Option Value)} {oc__law_matrix kV__law_matrix dc__law_matrix pm__law_matrix cd__law_matrix ct__law_matrix : Value}
    (a__law_matrix : PySem.W.nsIn K mainGlobals "_law_matrix" = some (some (.ref f__law_matrix)))
    (l__law_matrix : K.lookup f__law_matrix = some ⟨oc__law_matrix, od__law_matrix, .func (PySem.W.fnOf "_law_matrix" "_law_matrix" (defArgs s__law_matrix) (defBody s__law_matrix) (defScope s__law_matrix) .none kV__law_matrix dc__law_matrix pm__law_matrix an__law_matrix cd__law_matrix ct__law_matrix), sl__law_matrix⟩)
    (c__law_matrix : PySem.W.codeIn K cd__law_matrix "_law_matrix" = true)
    (k__law_matrix : PySem.W.keepIn K (.ref f__law_matrix) = true)
    {od__law_plain an__law_plain : Option Addr} {sl__law_plain : Array (Option Value)} {oc__law_plain kV__law_plain dc__law_plain pm__law_plain cd__law_plain ct__law_plain : Value}
    (a__law_plain : PySem.W.nsIn K mainGlobals "_law_plain" = some (some (.ref f__law_plain)))
    (l__law_plain : K.lookup f__law_plain = some ⟨oc__law_plain, od__law_plain, .func (PySem.W.fnOf "_law_plain" "_law_plain" (defArgs s__law_plain) (defBody s__law_plain) (defScope s__law_plain) .none kV__law_plain dc__law_plain pm__law_plain an__law_plain cd__law_plain ct__law_plain), sl__law_plain⟩)
    (c__law_plain : PySem.W.codeIn K cd__law_plain "_law_plain" = true)
    (k__law_plain : PySem.W.keepIn K (.ref f__law_plain) = true)
    {od__law_twice an__law_twice : Option Addr} {sl__law_twice : Array (Option Value)} {oc__law_twice kV__law_twice dc__law_twice pm__law_twice cd__law_twice ct__law_twice : Value}
    (a__law_twice : PySem.W.nsIn K mainGlobals "_law_twice" = some (some (.ref f__law_twice)))
    (l__law_twice : K.lookup f__law_twice = some ⟨oc__law_twice, od__law_twice, .func (PySem.W.fnOf "_law_twice" "_law_twice" (defArgs s__law_twice) (defBody s__law_twice) (defScope s__law_twice) .none kV__law_twice dc__law_twice pm__law_twice an__law_twice cd__law_twice ct__law_twice), sl__law_twice⟩)
    (c__law_twice : PySem.W.codeIn K cd__law_twice "_law_twice" = true)
    (k__law_twice : PySem.W.keepIn K (.ref f__law_twice) = true)
    {od__law_columns an__law_columns : Option Addr} {sl__law_columns : Array (Option Value)} {oc__law_columns kV__law_columns dc__law_columns pm__law_columns cd__law_columns ct__law_columns : Value}
    (a__law_columns : PySem.W.nsIn K mainGlobals "_law_columns" = some (some (.ref f__law_columns)))
    (l__law_columns : K.lookup f__law_columns = some ⟨oc__law_columns, od__law_columns, .func (PySem.W.fnOf "_law_columns" "_law_columns" (defArgs s__law_columns) (defBody s__law_columns) (defScope s__law_columns) .none kV__law_columns dc__law_columns pm__law_columns an__law_columns cd__law_columns ct__law_columns), sl__law_columns⟩)
    (c__law_columns : PySem.W.codeIn K cd__law_columns "_law_columns" = true)
    (k__law_columns : PySem.W.keepIn K (.ref f__law_columns) = true)
    {od_by an_by cdd_by : Option Addr} {sl_by ccs_by : Array (Option Value)} {oc_by kV_by dc_by pm_by ct_by ccl_by : Value} {vs_by : Array Value}
    (a_by : PySem.W.nsIn K mainGlobals "_law_by_one" = some (some (.ref f_by)))
    (l_by : K.lookup f_by = some ⟨oc_by, od_by, .func (PySem.W.fnOf "_law_by_one" "_law_by_one" (defArgs s__law_by_one) (defBody s__law_by_one) (defScope s__law_by_one) .none kV_by dc_by pm_by an_by (.ref c_by) ct_by), sl_by⟩)
    (cd_by : PySem.W.codeIn K (.ref c_by) "_law_by_one" = true)
    (k_by : PySem.W.keepIn K (.ref f_by) = true)
    (lc_by : K.lookup c_by = some ⟨ccl_by, cdd_by, .fields vs_by, ccs_by⟩)
    (v11_by : vs_by[11]? = some (.ref P_by))
    (hd_by : PySem.W.codeHdIn K c_by P_by = true)
    (nT_by : K.lookup P_by = none)
    (hT_by : h.get? P_by = some { cls := .none, data := .fields #[] })
    {od_law an_law cdd_law : Option Addr} {sl_law ccs_law : Array (Option Value)} {oc_law kV_law dc_law pm_law ct_law ccl_law : Value} {vs_law : Array Value}
    (a_law : PySem.W.nsIn K mainGlobals "law" = some (some (.ref f_law)))
    (l_law : K.lookup f_law = some ⟨oc_law, od_law, .func (PySem.W.fnOf "law" "law" (defArgs s_law) (defBody s_law) (defScope s_law) .none kV_law dc_law pm_law an_law (.ref c_law) ct_law), sl_law⟩)
    (cd_law : PySem.W.codeIn K (.ref c_law) "law" = true)
    (k_law : PySem.W.keepIn K (.ref f_law) = true)
    (lc_law : K.lookup c_law = some ⟨ccl_law, cdd_law, .fields vs_law, ccs_law⟩)
    (v11_law : vs_law[11]? = some (.ref P_law))
    (hd_law : PySem.W.codeHdIn K c_law P_law = true)
    (nT_law : K.lookup P_law = none)
    (hT_law : h.get? P_law = some { cls := .none, data := .fields #[] })
    (nP : P_law ≠ P_by)
    {tk_MOST_ROWS : Tok}
    (g_MOST_ROWS : PySem.W.nsIn K mainGlobals "MOST_ROWS" = some (some (.int 10 tk_MOST_ROWS)))
    {tt_NOUGHT : Option Addr} {tn_NOUGHT : Nat} {ts_NOUGHT : Array (Option Value)} {tk_NOUGHT0 tk_NOUGHT1 : Tok}
    (g_NOUGHT : PySem.W.nsIn K mainGlobals "NOUGHT" = some (some (.ref A_NOUGHT)))
    (t_NOUGHT : K.lookup A_NOUGHT = some ⟨.type "tuple", tt_NOUGHT, .seq [Value.int 0 tk_NOUGHT0, Value.int 1 tk_NOUGHT1].toArray tn_NOUGHT, ts_NOUGHT⟩)
    {tt_ONE : Option Addr} {tn_ONE : Nat} {ts_ONE : Array (Option Value)} {tk_ONE0 tk_ONE1 : Tok}
    (g_ONE : PySem.W.nsIn K mainGlobals "ONE" = some (some (.ref A_ONE)))
    (t_ONE : K.lookup A_ONE = some ⟨.type "tuple", tt_ONE, .seq [Value.int 1 tk_ONE0, Value.int 1 tk_ONE1].toArray tn_ONE, ts_ONE⟩)
    (z_isinstance : PySem.W.nsIn K mainGlobals "isinstance" = some none)
    (z_int : PySem.W.nsIn K mainGlobals "int" = some none)
    (z_bool : PySem.W.nsIn K mainGlobals "bool" = some none)
    (z_tuple : PySem.W.nsIn K mainGlobals "tuple" = some none)
    (z_len : PySem.W.nsIn K mainGlobals "len" = some none)
    (z_abs : PySem.W.nsIn K mainGlobals "abs" = some none)
    (z_list : PySem.W.nsIn K mainGlobals "list" = some none)
    (z_all : PySem.W.nsIn K mainGlobals "all" = some none)
    (z_sum : PySem.W.nsIn K mainGlobals "sum" = some none)
    (z_zip : PySem.W.nsIn K mainGlobals "zip" = some none)
    (z_range : PySem.W.nsIn K mainGlobals "range" = some none) :
    LamX.LawAtS l w K CX0 11 63 "_law_script" mg fa h := by
  have F_is_whole := fun_mk (st := s_is_whole) l_is_whole c_is_whole k_is_whole
  have b_is_whole := F_is_whole.binds (ps := ["thing"]) fun _ _ _ _ _ _ us hl => match us, hl with | [_], _ => rfl
  have F_is_fraction := fun_mk (st := s_is_fraction) l_is_fraction c_is_fraction k_is_fraction
  have b_is_fraction := F_is_fraction.binds (ps := ["thing"]) fun _ _ _ _ _ _ us hl => match us, hl with | [_], _ => rfl
  have F_shared_divisor := fun_mk (st := s_shared_divisor) l_shared_divisor c_shared_divisor k_shared_divisor
  have b_shared_divisor := F_shared_divisor.binds (ps := ["top", "bottom"]) fun _ _ _ _ _ _ us hl => match us, hl with | [_, _], _ => rfl
  have F_lowest := fun_mk (st := s_lowest) l_lowest c_lowest k_lowest
  have b_lowest := F_lowest.binds (ps := ["top", "bottom"]) fun _ _ _ _ _ _ us hl => match us, hl with | [_, _], _ => rfl
  have F_plus := fun_mk (st := s_plus) l_plus c_plus k_plus
  have b_plus := F_plus.binds (ps := ["one", "other"]) fun _ _ _ _ _ _ us hl => match us, hl with | [_, _], _ => rfl
  have F_times := fun_mk (st := s_times) l_times c_times k_times
  have b_times := F_times.binds (ps := ["one", "other"]) fun _ _ _ _ _ _ us hl => match us, hl with | [_, _], _ => rfl
  have F_is_fractions := fun_mk (st := s_is_fractions) l_is_fractions c_is_fractions k_is_fractions
  have b_is_fractions := F_is_fractions.binds (ps := ["thing"]) fun _ _ _ _ _ _ us hl => match us, hl with | [_], _ => rfl
  have F_common_bottom := fun_mk (st := s_common_bottom) l_common_bottom c_common_bottom k_common_bottom
  have b_common_bottom := F_common_bottom.binds (ps := ["pairs"]) fun _ _ _ _ _ _ us hl => match us, hl with | [_], _ => rfl
  have F_cleared := fun_mk (st := s_cleared) l_cleared c_cleared k_cleared
  have b_cleared := F_cleared.binds (ps := ["pairs"]) fun _ _ _ _ _ _ us hl => match us, hl with | [_], _ => rfl
  have F_dot := fun_mk (st := s_dot) l_dot c_dot k_dot
  have b_dot := F_dot.binds (ps := ["numbers", "others"]) fun _ _ _ _ _ _ us hl => match us, hl with | [_, _], _ => rfl
  have F_is_row := fun_mk (st := s_is_row) l_is_row c_is_row k_is_row
  have b_is_row := F_is_row.binds (ps := ["thing"]) fun _ _ _ _ _ _ us hl => match us, hl with | [_], _ => rfl
  have F_is_matrix := fun_mk (st := s_is_matrix) l_is_matrix c_is_matrix k_is_matrix
  have b_is_matrix := F_is_matrix.binds (ps := ["thing"]) fun _ _ _ _ _ _ us hl => match us, hl with | [_], _ => rfl
  have F_shape_of := fun_mk (st := s_shape_of) l_shape_of c_shape_of k_shape_of
  have b_shape_of := F_shape_of.binds (ps := ["matrix"]) fun _ _ _ _ _ _ us hl => match us, hl with | [_], _ => rfl
  have F_turned_over := fun_mk (st := s_turned_over) l_turned_over c_turned_over k_turned_over
  have b_turned_over := F_turned_over.binds (ps := ["matrix"]) fun _ _ _ _ _ _ us hl => match us, hl with | [_], _ => rfl
  have F_is_list_of := fun_mk (st := s_is_list_of) l_is_list_of c_is_list_of k_is_list_of
  have b_is_list_of := F_is_list_of.binds (ps := ["thing", "many"]) fun _ _ _ _ _ _ us hl => match us, hl with | [_, _], _ => rfl
  have F_check_matrix := fun_mk (st := s_check_matrix) l_check_matrix c_check_matrix k_check_matrix
  have b_check_matrix := F_check_matrix.binds (ps := ["thing"]) fun _ _ _ _ _ _ us hl => match us, hl with | [_], _ => rfl
  have F_check_list := fun_mk (st := s_check_list) l_check_list c_check_list k_check_list
  have b_check_list := F_check_list.binds (ps := ["thing", "many"]) fun _ _ _ _ _ _ us hl => match us, hl with | [_, _], _ => rfl
  have F_shape := fun_mk (st := s_shape) l_shape c_shape k_shape
  have b_shape := F_shape.binds (ps := ["matrix"]) fun _ _ _ _ _ _ us hl => match us, hl with | [_], _ => rfl
  have F_unit := fun_mk (st := s_unit) l_unit c_unit k_unit
  have b_unit := F_unit.binds (ps := ["many"]) fun _ _ _ _ _ _ us hl => match us, hl with | [_], _ => rfl
  have F_mirrored := fun_mk (st := s_mirrored) l_mirrored c_mirrored k_mirrored
  have b_mirrored := F_mirrored.binds (ps := ["matrix"]) fun _ _ _ _ _ _ us hl => match us, hl with | [_], _ => rfl
  have F_sum_of := fun_mk (st := s_sum_of) l_sum_of c_sum_of k_sum_of
  have b_sum_of := F_sum_of.binds (ps := ["one", "other"]) fun _ _ _ _ _ _ us hl => match us, hl with | [_, _], _ => rfl
  have F_met := fun_mk (st := s_met) l_met c_met k_met
  have b_met := F_met.binds (ps := ["row", "column"]) fun _ _ _ _ _ _ us hl => match us, hl with | [_, _], _ => rfl
  have F_product := fun_mk (st := s_product) l_product c_product k_product
  have b_product := F_product.binds (ps := ["one", "other"]) fun _ _ _ _ _ _ us hl => match us, hl with | [_, _], _ => rfl
  have F_scaled := fun_mk (st := s_scaled) l_scaled c_scaled k_scaled
  have b_scaled := F_scaled.binds (ps := ["matrix", "one"]) fun _ _ _ _ _ _ us hl => match us, hl with | [_, _], _ => rfl
  have F_led := fun_mk (st := s_led) l_led c_led k_led
  have b_led := F_led.binds (ps := ["matrix", "xs"]) fun _ _ _ _ _ _ us hl => match us, hl with | [_, _], _ => rfl
  have F__law_cell_at := fun_mk (st := s__law_cell_at) l__law_cell_at c__law_cell_at k__law_cell_at
  have b__law_cell_at := F__law_cell_at.binds (ps := ["_law_script", "_law_k"]) fun _ _ _ _ _ _ us hl => match us, hl with | [_, _], _ => rfl
  have F__law_well := fun_mk (st := s__law_well) l__law_well c__law_well k__law_well
  have b__law_well := F__law_well.binds (ps := ["_law_cell"]) fun _ _ _ _ _ _ us hl => match us, hl with | [_], _ => rfl
  have F__law_draw := fun_mk (st := s__law_draw) l__law_draw c__law_draw k__law_draw
  have b__law_draw := F__law_draw.binds (ps := ["_law_well_here", "_law_many"]) fun _ _ _ _ _ _ us hl => match us, hl with | [_, _], _ => rfl
  have F__law_one := fun_mk (st := s__law_one) l__law_one c__law_one k__law_one
  have b__law_one := F__law_one.binds (ps := ["_law_well_here", "_law_some"]) fun _ _ _ _ _ _ us hl => match us, hl with | [_, _], _ => rfl
  have F__law_low := fun_mk (st := s__law_low) l__law_low c__law_low k__law_low
  have b__law_low := F__law_low.binds (ps := ["_law_top", "_law_bottom"]) fun _ _ _ _ _ _ us hl => match us, hl with | [_, _], _ => rfl
  have F__law_sum := fun_mk (st := s__law_sum) l__law_sum c__law_sum k__law_sum
  have b__law_sum := F__law_sum.binds (ps := ["_law_some"]) fun _ _ _ _ _ _ us hl => match us, hl with | [_], _ => rfl
  have F__law_dot := fun_mk (st := s__law_dot) l__law_dot c__law_dot k__law_dot
  have b__law_dot := F__law_dot.binds (ps := ["_law_one_here", "_law_other"]) fun _ _ _ _ _ _ us hl => match us, hl with | [_, _], _ => rfl
  have F__law_great := fun_mk (st := s__law_great) l__law_great c__law_great k__law_great
  have b__law_great := F__law_great.binds (ps := ["_law_well_here"]) fun _ _ _ _ _ _ us hl => match us, hl with | [_], _ => rfl
  have F__law_place := fun_mk (st := s__law_place) l__law_place c__law_place k__law_place
  have b__law_place := F__law_place.binds (ps := ["_law_well_here", "_law_kind"]) fun _ _ _ _ _ _ us hl => match us, hl with | [_, _], _ => rfl
  have F__law_matrix := fun_mk (st := s__law_matrix) l__law_matrix c__law_matrix k__law_matrix
  have b__law_matrix := F__law_matrix.binds (ps := ["_law_well_here", "_law_rows", "_law_columns_here"]) fun _ _ _ _ _ _ us hl => match us, hl with | [_, _, _], _ => rfl
  have F__law_plain := fun_mk (st := s__law_plain) l__law_plain c__law_plain k__law_plain
  have b__law_plain := F__law_plain.binds (ps := ["_law_told"]) fun _ _ _ _ _ _ us hl => match us, hl with | [_], _ => rfl
  have F__law_twice := fun_mk (st := s__law_twice) l__law_twice c__law_twice k__law_twice
  have b__law_twice := F__law_twice.binds (ps := ["_law_ask", "_law_due"]) fun _ _ _ _ _ _ us hl => match us, hl with | [_, _], _ => rfl
  have F__law_columns := fun_mk (st := s__law_columns) l__law_columns c__law_columns k__law_columns
  have b__law_columns := F__law_columns.binds (ps := ["_law_matrix_here"]) fun _ _ _ _ _ _ us hl => match us, hl with | [_], _ => rfl
  have F_by : FunC K "_law_by_one" s__law_by_one f_by (PySem.W.fnOf "_law_by_one" "_law_by_one" (defArgs s__law_by_one) (defBody s__law_by_one) (defScope s__law_by_one) .none kV_by dc_by pm_by an_by (.ref c_by) ct_by) c_by := ⟨_, _, _, _, _, _, _, _, rfl, l_by, cd_by⟩
  have F_law : FunC K "law" s_law f_law (PySem.W.fnOf "law" "law" (defArgs s_law) (defBody s_law) (defScope s_law) .none kV_law dc_law pm_law an_law (.ref c_law) ct_law) c_law := ⟨_, _, _, _, _, _, _, _, rfl, l_law, cd_law⟩
  have b_by : Binds K (PySem.W.fnOf "_law_by_one" "_law_by_one" (defArgs s__law_by_one) (defBody s__law_by_one) (defScope s__law_by_one) .none kV_by dc_by pm_by an_by (.ref c_by) ct_by) ["_law_well_here", "_law_one_here"] [] := .all fun us hl => match us, hl with | [_, _], _ => rfl
  have T_NOUGHT : ∀ H, SqT K H A_NOUGHT [V.int 0, V.int 1] := fun H => .inr ⟨_, _, _, t_NOUGHT, rfl, rfl, (by show 2 ≤ sizeLine; decide), (.cons ⟨_, rfl⟩ (.cons ⟨_, rfl⟩ .nil))⟩
  have gm_NOUGHT := PySem.W.mg_of X G g_NOUGHT
  have T_ONE : ∀ H, SqT K H A_ONE [V.int 1, V.int 1] := fun H => .inr ⟨_, _, _, t_ONE, rfl, rfl, (by show 2 ≤ sizeLine; decide), (.cons ⟨_, rfl⟩ (.cons ⟨_, rfl⟩ .nil))⟩
  have gm_ONE := PySem.W.mg_of X G g_ONE
  have gM := PySem.W.mg_of X G g_MOST_ROWS
  have z : Zs mg := ⟨PySem.W.mg_none_of X G z_isinstance, PySem.W.mg_none_of X G z_int, PySem.W.mg_none_of X G z_bool, PySem.W.mg_none_of X G z_tuple, PySem.W.mg_none_of X G z_len, PySem.W.mg_none_of X G z_abs, PySem.W.mg_none_of X G z_list, PySem.W.mg_none_of X G z_all, PySem.W.mg_none_of X G z_sum, PySem.W.mg_none_of X G z_zip, PySem.W.mg_none_of X G z_range⟩
  have e := hfa.symm.trans (PySem.W.mg_of X G a_law)
  cases e
  have two : ∀ {p : Addr × Addr}, p ∈ [(c_law, P_law), (c_by, P_by)] → p = (c_law, P_law) ∨ p = (c_by, P_by) := fun h => by
    rcases List.mem_cons.mp h with h | h
    · exact .inl h
    · exact .inr (List.mem_singleton.mp h)
  refine ⟨PySem.W.fnOf "law" "law" (defArgs s_law) (defBody s_law) (defScope s_law) .none kV_law dc_law pm_law an_law (.ref c_law) ct_law, [(c_law, P_law), (c_by, P_by)], spLaw K P_law P_by, fun p hp => by rcases two hp with rfl | rfl; exact hT_law; exact hT_by, fun p hp => by rcases two hp with rfl | rfl; exact nT_law; exact nT_by, fun p hp => by rcases two hp with rfl | rfl; exact PySem.W.codeHd_of_K X hd_law; exact PySem.W.codeHd_of_K X hd_by, fun s v => .of_eq rfl, fun H a ns hl _ hH hS => ⟨a, ns, rfl, hS, hl, tabs0 (hH _ List.mem_cons_self) (hH _ (List.mem_cons_of_mem _ List.mem_cons_self)), fun _ => rfl⟩, fun base _ _ TBs => ?_⟩
  have TB := TBs _ List.mem_cons_self
  have TBy := TBs _ (List.mem_cons_of_mem _ List.mem_cons_self)
  have c_is_whole : Cal l.prog w K mg base 1 "is_whole" ["thing"] _ := ⟨f_is_whole, _, PySem.W.mg_of X G a_is_whole, k_is_whole, b_is_whole, ok_is_whole (k := 0) F_is_whole z⟩
  have c_shared_divisor : Cal l.prog w K mg base 1 "shared_divisor" ["top", "bottom"] _ := ⟨f_shared_divisor, _, PySem.W.mg_of X G a_shared_divisor, k_shared_divisor, b_shared_divisor, ok_shared_divisor (k := 0) F_shared_divisor z⟩
  have c_lowest : Cal l.prog w K mg base 2 "lowest" ["top", "bottom"] _ := ⟨f_lowest, _, PySem.W.mg_of X G a_lowest, k_lowest, b_lowest, ok_lowest F_lowest c_shared_divisor⟩
  have c_plus : Cal l.prog w K mg base 3 "plus" ["one", "other"] _ := ⟨f_plus, _, PySem.W.mg_of X G a_plus, k_plus, b_plus, ok_plus F_plus c_lowest⟩
  have c_times : Cal l.prog w K mg base 3 "times" ["one", "other"] _ := ⟨f_times, _, PySem.W.mg_of X G a_times, k_times, b_times, ok_times F_times c_lowest⟩
  have c_is_fraction : Cal l.prog w K mg base 2 "is_fraction" ["thing"] _ := ⟨f_is_fraction, _, PySem.W.mg_of X G a_is_fraction, k_is_fraction, b_is_fraction, ok_is_fraction F_is_fraction z c_is_whole c_shared_divisor⟩
  have c_is_fractions : Cal l.prog w K mg base 3 "is_fractions" ["thing"] _ := ⟨f_is_fractions, _, PySem.W.mg_of X G a_is_fractions, k_is_fractions, b_is_fractions, ok_is_fractions F_is_fractions z c_is_fraction⟩
  have c_common_bottom : Cal l.prog w K mg base 2 "common_bottom" ["pairs"] _ := ⟨f_common_bottom, _, PySem.W.mg_of X G a_common_bottom, k_common_bottom, b_common_bottom, ok_common_bottom F_common_bottom z c_shared_divisor⟩
  have c_cleared : Cal l.prog w K mg base 3 "cleared" ["pairs"] _ := ⟨f_cleared, _, PySem.W.mg_of X G a_cleared, k_cleared, b_cleared, ok_cleared F_cleared c_common_bottom⟩
  have c_dot : Cal l.prog w K mg base 1 "dot" ["numbers", "others"] _ := ⟨f_dot, _, PySem.W.mg_of X G a_dot, k_dot, b_dot, ok_dot (k := 0) F_dot z⟩
  have c_is_row : Cal l.prog w K mg base 4 "is_row" ["thing"] _ := ⟨f_is_row, _, PySem.W.mg_of X G a_is_row, k_is_row, b_is_row, ok_is_row F_is_row z gM c_is_fractions⟩
  have c_is_matrix : Cal l.prog w K mg base 5 "is_matrix" ["thing"] _ := ⟨f_is_matrix, _, PySem.W.mg_of X G a_is_matrix, k_is_matrix, b_is_matrix, ok_is_matrix F_is_matrix z gM c_is_row⟩
  have c_shape_of : Cal l.prog w K mg base 1 "shape_of" ["matrix"] _ := ⟨f_shape_of, _, PySem.W.mg_of X G a_shape_of, k_shape_of, b_shape_of, ok_shape_of (k := 0) F_shape_of z⟩
  have c_is_list_of : Cal l.prog w K mg base 4 "is_list_of" ["thing", "many"] _ := ⟨f_is_list_of, _, PySem.W.mg_of X G a_is_list_of, k_is_list_of, b_is_list_of, ok_is_list_of F_is_list_of z c_is_fractions⟩
  have c_check_list : Cal l.prog w K mg base 5 "check_list" ["thing", "many"] _ := ⟨f_check_list, _, PySem.W.mg_of X G a_check_list, k_check_list, b_check_list, ok_check_list F_check_list z c_is_list_of⟩
  have c_check_matrix : Cal l.prog w K mg base 6 "check_matrix" ["thing"] _ := ⟨f_check_matrix, _, PySem.W.mg_of X G a_check_matrix, k_check_matrix, b_check_matrix, ok_check_matrix F_check_matrix z c_is_matrix⟩
  have c_shape : Cal l.prog w K mg base 7 "shape" ["matrix"] _ := ⟨f_shape, _, PySem.W.mg_of X G a_shape, k_shape, b_shape, ok_shape F_shape z c_check_matrix c_shape_of⟩
  have c_turned_over : Cal l.prog w K mg base 1 "turned_over" ["matrix"] _ := ⟨f_turned_over, _, PySem.W.mg_of X G a_turned_over, k_turned_over, b_turned_over, ok_turned_over (k := 0) F_turned_over z⟩
  have c_mirrored : Cal l.prog w K mg base 7 "mirrored" ["matrix"] _ := ⟨f_mirrored, _, PySem.W.mg_of X G a_mirrored, k_mirrored, b_mirrored, ok_mirrored F_mirrored z c_check_matrix c_turned_over⟩
  have c_unit : Cal l.prog w K mg base 2 "unit" ["many"] _ := ⟨f_unit, _, PySem.W.mg_of X G a_unit, k_unit, b_unit, ok_unit F_unit z gM gm_ONE T_ONE gm_NOUGHT T_NOUGHT c_is_whole⟩
  have c_sum_of : Cal l.prog w K mg base 7 "sum_of" ["one", "other"] _ := ⟨f_sum_of, _, PySem.W.mg_of X G a_sum_of, k_sum_of, b_sum_of, ok_sum_of F_sum_of z c_check_matrix c_shape_of c_plus⟩
  have c_scaled : Cal l.prog w K mg base 7 "scaled" ["matrix", "one"] _ := ⟨f_scaled, _, PySem.W.mg_of X G a_scaled, k_scaled, b_scaled, ok_scaled F_scaled z c_check_matrix c_is_fraction c_times⟩
  have c_met : Cal l.prog w K mg base 3 "met" ["row", "column"] _ := ⟨f_met, _, PySem.W.mg_of X G a_met, k_met, b_met, ok_met F_met c_lowest c_dot⟩
  have c_product : Cal l.prog w K mg base 7 "product" ["one", "other"] _ := ⟨f_product, _, PySem.W.mg_of X G a_product, k_product, b_product, ok_product F_product z c_check_matrix c_shape_of c_cleared c_turned_over c_met⟩
  have c_led : Cal l.prog w K mg base 7 "led" ["matrix", "xs"] _ := ⟨f_led, _, PySem.W.mg_of X G a_led, k_led, b_led, ok_led F_led z c_check_matrix c_check_list c_shape_of c_cleared c_met⟩
  have c__law_cell_at : Cal l.prog w K mg base 1 "_law_cell_at" ["_law_script", "_law_k"] _ := ⟨f__law_cell_at, _, PySem.W.mg_of X G a__law_cell_at, k__law_cell_at, b__law_cell_at, ok_cell (k := 0) F__law_cell_at z.len⟩
  have c__law_well : Cal l.prog w K mg base 1 "_law_well" ["_law_cell"] _ := ⟨f__law_well, _, PySem.W.mg_of X G a__law_well, k__law_well, b__law_well, ok_well (k := 0) F__law_well z.int⟩
  have c__law_draw : Cal l.prog w K mg base 1 "_law_draw" ["_law_well_here", "_law_many"] _ := ⟨f__law_draw, _, PySem.W.mg_of X G a__law_draw, k__law_draw, b__law_draw, ok_draw (k := 0) F__law_draw⟩
  have c__law_one : Cal l.prog w K mg base 2 "_law_one" ["_law_well_here", "_law_some"] _ := ⟨f__law_one, _, PySem.W.mg_of X G a__law_one, k__law_one, b__law_one, ok__law_one F__law_one z c__law_draw⟩
  have c__law_low : Cal l.prog w K mg base 1 "_law_low" ["_law_top", "_law_bottom"] _ := ⟨f__law_low, _, PySem.W.mg_of X G a__law_low, k__law_low, b__law_low, ok__law_low (k := 0) F__law_low z⟩
  have c__law_sum : Cal l.prog w K mg base 2 "_law_sum" ["_law_some"] _ := ⟨f__law_sum, _, PySem.W.mg_of X G a__law_sum, k__law_sum, b__law_sum, ok__law_sum F__law_sum c__law_low⟩
  have c__law_dot : Cal l.prog w K mg base 3 "_law_dot" ["_law_one_here", "_law_other"] _ := ⟨f__law_dot, _, PySem.W.mg_of X G a__law_dot, k__law_dot, b__law_dot, ok__law_dot F__law_dot z c__law_sum⟩
  have c__law_great : Cal l.prog w K mg base 2 "_law_great" ["_law_well_here"] _ := ⟨f__law_great, _, PySem.W.mg_of X G a__law_great, k__law_great, b__law_great, ok__law_great F__law_great c__law_draw⟩
  have c__law_place : Cal l.prog w K mg base 3 "_law_place" ["_law_well_here", "_law_kind"] _ := ⟨f__law_place, _, PySem.W.mg_of X G a__law_place, k__law_place, b__law_place, ok__law_place F__law_place c__law_draw c__law_low c__law_one c__law_great⟩
  have c__law_matrix : Cal l.prog w K mg base 4 "_law_matrix" ["_law_well_here", "_law_rows", "_law_columns_here"] _ := ⟨f__law_matrix, _, PySem.W.mg_of X G a__law_matrix, k__law_matrix, b__law_matrix, ok__law_matrix F__law_matrix z c__law_one c__law_place⟩
  have c__law_columns : Cal l.prog w K mg base 1 "_law_columns" ["_law_matrix_here"] _ := ⟨f__law_columns, _, PySem.W.mg_of X G a__law_columns, k__law_columns, b__law_columns, ok__law_columns (k := 0) F__law_columns z⟩
  have c_p0 : Cal l.prog w K mg base 1 "_law_plain" ["_law_told"] (spPl K 0) := ⟨f__law_plain, _, PySem.W.mg_of X G a__law_plain, k__law_plain, b__law_plain, ok_plain0 (k := 0) F__law_plain⟩
  have c_p1 : Cal l.prog w K mg base 2 "_law_plain" ["_law_told"] (spPl K 1) := ⟨f__law_plain, _, PySem.W.mg_of X G a__law_plain, k__law_plain, b__law_plain, ok_plain1 F__law_plain z c_p0⟩
  have c_p2 : Cal l.prog w K mg base 3 "_law_plain" ["_law_told"] (spPl K 2) := ⟨f__law_plain, _, PySem.W.mg_of X G a__law_plain, k__law_plain, b__law_plain, ok_plain2 F__law_plain z c_p1⟩
  have c__law_plain : Cal l.prog w K mg base 4 "_law_plain" ["_law_told"] (spPl K 3) := ⟨f__law_plain, _, PySem.W.mg_of X G a__law_plain, k__law_plain, b__law_plain, ok_plain3 F__law_plain z c_p2⟩
  obtain ⟨cdS, GT⟩ := gotTwo_of F__law_twice (PySem.W.mg_of X G a__law_twice) b__law_twice sc__law_twice rfl (.inl rfl)
  have c_by_ : Cal l.prog w K mg base 10 "_law_by_one" ["_law_well_here", "_law_one_here"] (spBy (TT11 P_law P_by)) := ⟨f_by, _, PySem.W.mg_of X G a_by, k_by, b_by, ok_by F_by z TBy (List.mem_cons_of_mem _ List.mem_cons_self) (fun p hp e => by rcases List.mem_cons.mp hp with rfl | hp; exact absurd e nP; rw [List.mem_singleton.mp hp]) GT c__law_columns c__law_draw c__law_place c_shape c_mirrored c__law_low c_scaled c_led c__law_dot c__law_plain⟩
  exact ok_law F_law z TB nP GT c__law_cell_at c__law_well c__law_draw c__law_one c__law_matrix c_by_ c__law_sum c__law_dot c__law_columns c__law_plain c_sum_of c_product c_unit c_shape

end E1

open PySem PySem.W PyProof.Rows
set_option maxRecDepth 100000 in
set_option maxHeartbeats 0 in
theorem PySem.Challenge.cw_echobound_k11_matrices_of_matrices_holds : PySem.Challenge.rw_echobound_k11_matrices_of_matrices.Holds := by
  w_on; o_law; km_head; (case hw => w_witness2)
  k_fill
  refine LamX.walk_ofTs (l := PySem.Challenge.rw_echobound_k11_matrices_of_matrices) (n := 63) (k := 11) (x := "_law_script") (CX := fun _ => L2.CX0) rfl (by decide) rfl ⟨rfl, by decide, by decide⟩ (fun w h Y => PySem.W.km_in_of Y) ?F (fun _ _ _ _ _ h => h)
  case F =>
    intro w mg fa h Y KX G hmg
    refine' E1.all_mk KX G hmg ?a_is_whole ?l_is_whole ?c_is_whole ?k_is_whole ?a_is_fraction ?l_is_fraction ?c_is_fraction ?k_is_fraction ?a_shared_divisor ?l_shared_divisor ?c_shared_divisor ?k_shared_divisor ?a_lowest ?l_lowest ?c_lowest ?k_lowest ?a_plus ?l_plus ?c_plus ?k_plus ?a_times ?l_times ?c_times ?k_times ?a_is_fractions ?l_is_fractions ?c_is_fractions ?k_is_fractions ?a_common_bottom ?l_common_bottom ?c_common_bottom ?k_common_bottom ?a_cleared ?l_cleared ?c_cleared ?k_cleared ?a_dot ?l_dot ?c_dot ?k_dot ?a_is_row ?l_is_row ?c_is_row ?k_is_row ?a_is_matrix ?l_is_matrix ?c_is_matrix ?k_is_matrix ?a_shape_of ?l_shape_of ?c_shape_of ?k_shape_of ?a_turned_over ?l_turned_over ?c_turned_over ?k_turned_over ?a_is_list_of ?l_is_list_of ?c_is_list_of ?k_is_list_of ?a_check_matrix ?l_check_matrix ?c_check_matrix ?k_check_matrix ?a_check_list ?l_check_list ?c_check_list ?k_check_list ?a_shape ?l_shape ?c_shape ?k_shape ?a_unit ?l_unit ?c_unit ?k_unit ?a_mirrored ?l_mirrored ?c_mirrored ?k_mirrored ?a_sum_of ?l_sum_of ?c_sum_of ?k_sum_of ?a_met ?l_met ?c_met ?k_met ?a_product ?l_product ?c_product ?k_product ?a_scaled ?l_scaled ?c_scaled ?k_scaled ?a_led ?l_led ?c_led ?k_led ?a__law_cell_at ?l__law_cell_at ?c__law_cell_at ?k__law_cell_at ?a__law_well ?l__law_well ?c__law_well ?k__law_well ?a__law_draw ?l__law_draw ?c__law_draw ?k__law_draw ?a__law_one ?l__law_one ?c__law_one ?k__law_one ?a__law_low ?l__law_low ?c__law_low ?k__law_low ?a__law_sum ?l__law_sum ?c__law_sum ?k__law_sum ?a__law_dot ?l__law_dot ?c__law_dot ?k__law_dot ?a__law_great ?l__law_great ?c__law_great ?k__law_great ?a__law_place ?l__law_place ?c__law_place ?k__law_place ?a__law_matrix ?l__law_matrix ?c__law_matrix ?k__law_matrix ?a__law_plain ?l__law_plain ?c__law_plain ?k__law_plain ?a__law_twice ?l__law_twice ?c__law_twice ?k__law_twice ?a__law_columns ?l__law_columns ?c__law_columns ?k__law_columns ?a_by ?l_by ?cd_by ?k_by ?lc_by ?v11_by ?hd_by ?nT_by ?hT_by ?a_law ?l_law ?cd_law ?k_law ?lc_law ?v11_law ?hd_law ?nT_law ?hT_law ?nP ?g_MOST_ROWS ?g_NOUGHT ?t_NOUGHT ?g_ONE ?t_ONE ?z_isinstance ?z_int ?z_bool ?z_tuple ?z_len ?z_abs ?z_list ?z_all ?z_sum ?z_zip ?z_range
    (case a_is_whole => k_is)
    (case l_is_whole => k_is)
    (case c_is_whole => k_is)
    (case k_is_whole => k_is)
    (case a_is_fraction => k_is)
    (case l_is_fraction => k_is)
    (case c_is_fraction => k_is)
    (case k_is_fraction => k_is)
    (case a_shared_divisor => k_is)
    (case l_shared_divisor => k_is)
    (case c_shared_divisor => k_is)
    (case k_shared_divisor => k_is)
    (case a_lowest => k_is)
    (case l_lowest => k_is)
    (case c_lowest => k_is)
    (case k_lowest => k_is)
    (case a_plus => k_is)
    (case l_plus => k_is)
    (case c_plus => k_is)
    (case k_plus => k_is)
    (case a_times => k_is)
    (case l_times => k_is)
    (case c_times => k_is)
    (case k_times => k_is)
    (case a_is_fractions => k_is)
    (case l_is_fractions => k_is)
    (case c_is_fractions => k_is)
    (case k_is_fractions => k_is)
    (case a_common_bottom => k_is)
    (case l_common_bottom => k_is)
    (case c_common_bottom => k_is)
    (case k_common_bottom => k_is)
    (case a_cleared => k_is)
    (case l_cleared => k_is)
    (case c_cleared => k_is)
    (case k_cleared => k_is)
    (case a_dot => k_is)
    (case l_dot => k_is)
    (case c_dot => k_is)
    (case k_dot => k_is)
    (case a_is_row => k_is)
    (case l_is_row => k_is)
    (case c_is_row => k_is)
    (case k_is_row => k_is)
    (case a_is_matrix => k_is)
    (case l_is_matrix => k_is)
    (case c_is_matrix => k_is)
    (case k_is_matrix => k_is)
    (case a_shape_of => k_is)
    (case l_shape_of => k_is)
    (case c_shape_of => k_is)
    (case k_shape_of => k_is)
    (case a_turned_over => k_is)
    (case l_turned_over => k_is)
    (case c_turned_over => k_is)
    (case k_turned_over => k_is)
    (case a_is_list_of => k_is)
    (case l_is_list_of => k_is)
    (case c_is_list_of => k_is)
    (case k_is_list_of => k_is)
    (case a_check_matrix => k_is)
    (case l_check_matrix => k_is)
    (case c_check_matrix => k_is)
    (case k_check_matrix => k_is)
    (case a_check_list => k_is)
    (case l_check_list => k_is)
    (case c_check_list => k_is)
    (case k_check_list => k_is)
    (case a_shape => k_is)
    (case l_shape => k_is)
    (case c_shape => k_is)
    (case k_shape => k_is)
    (case a_unit => k_is)
    (case l_unit => k_is)
    (case c_unit => k_is)
    (case k_unit => k_is)
    (case a_mirrored => k_is)
    (case l_mirrored => k_is)
    (case c_mirrored => k_is)
    (case k_mirrored => k_is)
    (case a_sum_of => k_is)
    (case l_sum_of => k_is)
    (case c_sum_of => k_is)
    (case k_sum_of => k_is)
    (case a_met => k_is)
    (case l_met => k_is)
    (case c_met => k_is)
    (case k_met => k_is)
    (case a_product => k_is)
    (case l_product => k_is)
    (case c_product => k_is)
    (case k_product => k_is)
    (case a_scaled => k_is)
    (case l_scaled => k_is)
    (case c_scaled => k_is)
    (case k_scaled => k_is)
    (case a_led => k_is)
    (case l_led => k_is)
    (case c_led => k_is)
    (case k_led => k_is)
    (case a__law_cell_at => k_is)
    (case l__law_cell_at => k_is)
    (case c__law_cell_at => k_is)
    (case k__law_cell_at => k_is)
    (case a__law_well => k_is)
    (case l__law_well => k_is)
    (case c__law_well => k_is)
    (case k__law_well => k_is)
    (case a__law_draw => k_is)
    (case l__law_draw => k_is)
    (case c__law_draw => k_is)
    (case k__law_draw => k_is)
    (case a__law_one => k_is)
    (case l__law_one => k_is)
    (case c__law_one => k_is)
    (case k__law_one => k_is)
    (case a__law_low => k_is)
    (case l__law_low => k_is)
    (case c__law_low => k_is)
    (case k__law_low => k_is)
    (case a__law_sum => k_is)
    (case l__law_sum => k_is)
    (case c__law_sum => k_is)
    (case k__law_sum => k_is)
    (case a__law_dot => k_is)
    (case l__law_dot => k_is)
    (case c__law_dot => k_is)
    (case k__law_dot => k_is)
    (case a__law_great => k_is)
    (case l__law_great => k_is)
    (case c__law_great => k_is)
    (case k__law_great => k_is)
    (case a__law_place => k_is)
    (case l__law_place => k_is)
    (case c__law_place => k_is)
    (case k__law_place => k_is)
    (case a__law_matrix => k_is)
    (case l__law_matrix => k_is)
    (case c__law_matrix => k_is)
    (case k__law_matrix => k_is)
    (case a__law_plain => k_is)
    (case l__law_plain => k_is)
    (case c__law_plain => k_is)
    (case k__law_plain => k_is)
    (case a__law_twice => k_is)
    (case l__law_twice => k_is)
    (case c__law_twice => k_is)
    (case k__law_twice => k_is)
    (case a__law_columns => k_is)
    (case l__law_columns => k_is)
    (case c__law_columns => k_is)
    (case k__law_columns => k_is)
    (case a_by => k_is)
    (case l_by => k_is)
    (case cd_by => k_is)
    (case k_by => k_is)
    (case lc_by => k_is)
    (case v11_by => rfl)
    (case hd_by => first | kernel_rfl | rfl | decide +kernel)
    (case nT_by => first | kernel_rfl | rfl | decide +kernel)
    (case hT_by => exact PySem.W.km_tabs_of Y _ (by first | k_mem | decide | simp))
    (case a_law => k_is)
    (case l_law => k_is)
    (case cd_law => k_is)
    (case k_law => k_is)
    (case lc_law => k_is)
    (case v11_law => rfl)
    (case hd_law => first | kernel_rfl | rfl | decide +kernel)
    (case nT_law => first | kernel_rfl | rfl | decide +kernel)
    (case hT_law => exact PySem.W.km_tabs_of Y _ (by first | k_mem | decide | simp))
    (case nP => first | decide | (intro z; cases z))
    (case g_MOST_ROWS => k_is)
    (case g_NOUGHT => k_is)
    (case t_NOUGHT => k_is)
    (case g_ONE => k_is)
    (case t_ONE => k_is)
    (case z_isinstance => k_is)
    (case z_int => k_is)
    (case z_bool => k_is)
    (case z_tuple => k_is)
    (case z_len => k_is)
    (case z_abs => k_is)
    (case z_list => k_is)
    (case z_all => k_is)
    (case z_sum => k_is)
    (case z_zip => k_is)
    (case z_range => k_is)
