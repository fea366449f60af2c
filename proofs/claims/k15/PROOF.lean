import PyProof.Rows.All
import Wide.All
import OpenK.AllK
import Wide.FinOn
import HandS.Codes
import HandS.ForMost
import HandS.Wide
import HandS.Zip
import HandS.IsInst
import HandS.Defaults
import HandS.Style
import HandS.Walk
import HandS.More
import HandS.WideBits
import OpenK.KEqL
import HandS.Flow
import HandS.ForExc
import HandS.Lambda
import HandS.CallLocal
import KE.RegKSuper
import KE.RegKIsAll
import KE.RegKTryMore
import KE.KNestM
import HandS.EndTab
import PySem.Challenge.RW_echobound_k15_answers_of_series
set_option Elab.async false
set_option linter.all false
set_option maxRecDepth 100000
set_option maxHeartbeats 4000000
namespace E1
open PySem PySem.Spec PyProof.Rows L2
/-! ### a def of the text that is called by its name -/
def Cal (P : Program) (w : World) (K : PySem.W.Frag) (mg : Str → Option Value) (base : Heap) (k : Nat) (x : Str) (ps : List Str) (sp : Sp) : Prop :=
  ∃ (f : Addr) (fd : FuncData), mg x = some (.ref f) ∧ PySem.W.keepIn K (.ref f) = true ∧ Binds K fd ps [] ∧ FnOk P w K mg base CX0 k f fd ps sp
theorem pe_cal {X : Cx} {k j : Nat} {x : Str} {ps : List Str} {sp : Sp} {e : Expr} {es : List Expr} {t : TA} {p pos : Pos} (c : Cal X.prog X.w X.K X.mg X.base k x ps sp) (hr : Room j X.A) (ha : PA X (e :: es) t) (hle : k ≤ j := by decide) (hg : Gl X x := by rfl)
    (hdb : (x == ("__debug__" : Str)) = false := by decide) (he : starEach (e :: es) X.env = (false, eval e X.env) :: starEach es X.env := by rfl) (hpl : (backTo pos (starEach es X.env)).any (·.1) = false := by rfl) :
    PE X (.Call (.Name x p) (e :: es) [] pos) (tCall sp [] E0 t) := by
  obtain ⟨f, fd, h1, h2, h3, h4⟩ := c
  exact pe_call h4 (hr.mono hle) hg h1 h2 h3 .nil pass0 ha hdb he hpl
/-! ### heaps -/
def SameBut (a : Addr) (H H' : Hp) : Prop := ∀ b o, b ≠ a → H b = some o → H' b = some o
theorem SameBut.refl (a : Addr) (H : Hp) : SameBut a H H := fun _ _ _ h => h
theorem SameBut.trans {a : Addr} {H H1 H2 : Hp} (x : SameBut a H H1) (y : SameBut a H1 H2) : SameBut a H H2 := fun b o n h => y b o n (x b o n h)
theorem SameBut.of {a : Addr} {H H' : Hp} (s : Same H H') : SameBut a H H' := fun b o _ h => s b o h
theorem SameBut.upd {a : Addr} {H : Hp} {o : HO} : SameBut a H (upd H a o) := fun b _ n h => by
  rw [upd_ne n]
  exact h
theorem same_new {H : Hp} {p : Addr} {o : HO} (h : H p = none) : Same H (upd H p o) := fun b x e => by
  rw [upd_ne (ne_of_none e h)]
  exact e
theorem Same.tup {K : PySem.W.Frag} {H H' : Hp} {a : Addr} {xs : List V} (e : Same H H') (h : SqT K H a xs) : SqT K H' a xs := by
  rcases h with (h | ⟨o, h⟩) | h
  · exact .inl (.inl (e _ _ h))
  · exact .inl (.inr ⟨o, e _ _ h⟩)
  · exact .inr h
theorem a0 {α : Type} {x : α} {l : List α} : atI (x :: l) 0 = some x := atI_nat (j := 0) rfl
theorem a1 {α : Type} {x y : α} {l : List α} : atI (x :: y :: l) 1 = some y := atI_nat (j := 1) rfl
theorem a2 {α : Type} {x y z : α} {l : List α} : atI (x :: y :: z :: l) 2 = some z := atI_nat (j := 2) rfl
theorem toB {p : Prop} [Decidable p] (h : decide p = true) : p := of_decide_eq_true h
theorem toNB {p : Prop} [Decidable p] (h : ¬ decide p = true) : ¬ p := fun z => h (decide_eq_true z)
/-- a well: the digits left, a number that is mixed, how many were mixed (at most c) -/
def WellAt (H : Hp) (a : Addr) (c : Int) : Prop := ∃ x y z : Int, H a = some (.lst [.int x, .int y, .int z]) ∧ 0 ≤ y ∧ y < 2147483647 ∧ 0 ≤ z ∧ z ≤ c
theorem WellAt.mono {H : Hp} {a : Addr} {c d : Int} (h : WellAt H a c) (l : c ≤ d) : WellAt H a d := by
  obtain ⟨x, y, z, e, h1, h2, h3, h4⟩ := h
  exact ⟨x, y, z, e, h1, h2, h3, by omega⟩
theorem WellAt.same {H H' : Hp} {a : Addr} {c : Int} (h : WellAt H a c) (s : Same H H') : WellAt H' a c := by
  obtain ⟨x, y, z, e, h1, h2, h3, h4⟩ := h
  exact ⟨x, y, z, s _ _ e, h1, h2, h3, h4⟩
theorem WellAt.but {H H' : Hp} {a b : Addr} {c : Int} (h : WellAt H a c) (s : SameBut b H H') (n : a ≠ b) : WellAt H' a c := by
  obtain ⟨x, y, z, e, h1, h2, h3, h4⟩ := h
  exact ⟨x, y, z, s _ _ n e, h1, h2, h3, h4⟩
/-! ### promises of the law's helpers -/
def spCell (K : PySem.W.Frag) : Sp := fun vs H Q _ => ∃ (a : Addr) (ns : List Int) (k : Nat), vs = [.ref a, .int k] ∧ SqL K H a (ns.map V.int) ∧ Q (.int (ns.getD k 0)) H
def spWell : Sp := fun vs H Q _ => ∃ c : Int, vs = [.int c] ∧ ∀ p : Addr, H p = none → ∀ H', Same H H' → WellAt H' p 0 → Q (.ref p) H'
/-- a number from 0 to below m; the well has at most one more -/
def spDraw : Sp := fun vs H Q _ => ∃ (a : Addr) (c m : Int), vs = [.ref a, .int m] ∧ WellAt H a c ∧ c ≤ 1000000000 ∧ 0 < m ∧ m.natAbs < 2 ^ 9000 ∧
  ∀ (r : Int) (H' : Hp), 0 ≤ r → r < m → SameBut a H H' → (∀ b, H b = none → H' b = none) → WellAt H' a (c + 1) → Q (.int r) H'
def topS (i : Nat) : Stmt := PySem.Challenge.pw_echobound_k15_answers_of_series.main.body.getD i (.Pass ⟨0, 0, 0, 0⟩)
abbrev s_is_whole : Stmt := topS 6
abbrev s_is_fraction : Stmt := topS 7
abbrev s_shared_divisor : Stmt := topS 8
abbrev s_lowest : Stmt := topS 9
abbrev s_minus : Stmt := topS 10
abbrev s_divided : Stmt := topS 11
abbrev s_is_fractions : Stmt := topS 13
abbrev s_common_bottom : Stmt := topS 14
abbrev s_cleared : Stmt := topS 15
abbrev s_sum_of_products : Stmt := topS 16
abbrev s_is_bottom : Stmt := topS 19
abbrev s_check_series : Stmt := topS 20
abbrev s_check_bottom : Stmt := topS 21
abbrev s_place_of : Stmt := topS 22
abbrev s_product_place : Stmt := topS 23
abbrev s_first_places : Stmt := topS 24
abbrev s_product_of : Stmt := topS 25
abbrev s_quotient : Stmt := topS 26
abbrev s_response : Stmt := topS 27
abbrev s_answered : Stmt := topS 28
abbrev s__law_cell_at : Stmt := topS 30
abbrev s__law_well : Stmt := topS 31
abbrev s__law_draw : Stmt := topS 32
abbrev s__law_one : Stmt := topS 33
abbrev s__law_low : Stmt := topS 34
abbrev s__law_sum : Stmt := topS 35
abbrev s__law_place : Stmt := topS 36
abbrev s__law_series : Stmt := topS 37
abbrev s__law_bottom : Stmt := topS 38
abbrev s__law_plain : Stmt := topS 39
abbrev s__law_answers : Stmt := topS 40
abbrev s__law_multiplied : Stmt := topS 41
abbrev s__law_same : Stmt := topS 42
abbrev s__law_by_response : Stmt := topS 43
abbrev s_law : Stmt := topS 44
section
variable {P : Program} {w : World} {K : PySem.W.Frag} {mg : Str → Option Value} {base : Heap}
end
end E1

namespace E1
open PySem PySem.Spec PyProof.Rows L2

def CalD (P : Program) (w : World) (K : PySem.W.Frag) (mg : Str → Option Value) (base : Heap) (k : Nat) (x : Str) (ps : List Str) (dvs : List V) (sp : Sp) : Prop :=
  ∃ (f : Addr) (fd : FuncData) (ds : List Value), mg x = some (.ref f) ∧ PySem.W.keepIn K (.ref f) = true ∧ Vals dvs ds ∧ Binds K fd ps ds ∧ FnOk P w K mg base CX0 k f fd ps sp
theorem pe_cald {X : Cx} {k j : Nat} {x : Str} {ps : List Str} {dvs : List V} {sp : Sp} {e : Expr} {es : List Expr} {t : TA} {p pos : Pos} (c : CalD X.prog X.w X.K X.mg X.base k x ps dvs sp) (hr : Room j X.A) (ha : PA X (e :: es) t) (hle : k ≤ j := by decide) (hg : Gl X x := by rfl)
    (hdb : (x == ("__debug__" : Str)) = false := by decide) (he : starEach (e :: es) X.env = (false, eval e X.env) :: starEach es X.env := by rfl) (hpl : (backTo pos (starEach es X.env)).any (·.1) = false := by rfl) :
    PE X (.Call (.Name x p) (e :: es) [] pos) (tCall sp dvs E0 t) := by
  obtain ⟨f, fd, ds, h1, h2, hd, h3, h4⟩ := c
  exact pe_call h4 (hr.mono hle) hg h1 h2 h3 hd pass0 ha hdb he hpl
def CalK (P : Program) (w : World) (K : PySem.W.Frag) (mg : Str → Option Value) (base : Heap) (k : Nat) (x : Str) (ps : List Str) (n : Nat) (ks : List Str) (gV : List V → List V → List V) (sp : Sp) : Prop :=
  ∃ (f : Addr) (fd : FuncData) (g : List Value → List Value → List Value), mg x = some (.ref f) ∧ PySem.W.keepIn K (.ref f) = true ∧ KBn K fd ps n ks g gV ∧ FnOk P w K mg base CX0 k f fd ps sp
theorem pe_calk {X : Cx} {k j n : Nat} {x : Str} {ps ks : List Str} {gV : List V → List V → List V} {sp : Sp} {e : Expr} {es : List Expr} {kws : List Keyword} {t tk : TA} {p pos : Pos} (c : CalK X.prog X.w X.K X.mg X.base k x ps n ks gV sp) (hr : Room j X.A)
    (ha : PA X (e :: es) t) (hkw : PK X kws tk) (hle : k ≤ j := by decide) (hg : Gl X x := by rfl) (hall : (backToKw pos (keywordEach kws X.env)).all (·.1.isSome) = true := by rfl) (hks : (backToKw pos (keywordEach kws X.env)).filterMap (·.1) = ks := by rfl)
    (hdb : (x == ("__debug__" : Str)) = false := by decide) (he : starEach (e :: es) X.env = (false, eval e X.env) :: starEach es X.env := by rfl)
    (hpl : ((backTo pos (starEach (e :: es) X.env)).any (·.1) || (backToKw pos (keywordEach kws X.env)).any (·.1.isNone)) = false := by rfl) :
    PE X (.Call (.Name x p) (e :: es) kws pos) (tCallN n ks.length sp gV E0 t tk) := by
  obtain ⟨f, fd, g, h1, h2, h3, h4⟩ := c
  exact pe_callN h4 (hr.mono hle) hg h1 h2 h3 pass0 ha hkw hall hks hdb he hpl
theorem pe_calk0 {X : Cx} {k j : Nat} {x : Str} {ps ks : List Str} {gV : List V → List V → List V} {sp : Sp} {kws : List Keyword} {tk : TA} {p pos : Pos} (c : CalK X.prog X.w X.K X.mg X.base k x ps 0 ks gV sp) (hr : Room j X.A)
    (hkw : PK X kws tk) (hle : k ≤ j := by decide) (hg : Gl X x := by rfl) (hall : (backToKw pos (keywordEach kws X.env)).all (·.1.isSome) = true := by rfl) (hks : (backToKw pos (keywordEach kws X.env)).filterMap (·.1) = ks := by rfl)
    (hdb : (x == ("__debug__" : Str)) = false := by decide)
    (hpl : ((backTo pos (starEach [] X.env)).any (·.1) || (backToKw pos (keywordEach kws X.env)).any (·.1.isNone)) = false := by rfl) :
    PE X (.Call (.Name x p) [] kws pos) (tCallN 0 ks.length sp gV E0 tNil tk) := by
  obtain ⟨f, fd, g, h1, h2, h3, h4⟩ := c
  refine ⟨fun pins s σ H Q I h => ?_⟩
  refine wpAny_Call_Name_kw (ld_glob I hg h1 ?_ hdb)
  refine PySem.W.callWith_KW0 (h₀ := X.base) I.ok.mod.kin h2 hall (thn (hkw.run pos pins s σ H _ I h) fun ws s2 ⟨zs, H2, I2, rz, l1, l2, q2⟩ => ⟨I2.kIn, ?_⟩) hpl
  rw [hks]
  exact run_fnN (vs := []) (us := []) h4 (hr.mono hle) h3 pass0 I2 .nil rz l1 l2 q2
/-- a class handed to isinstance -/
theorem isiB {K : PySem.W.Frag} {H : Hp} {x : V} {a b : String} {r : Bool} {Q : VK} (ty : TyX K H x (.type a)) (k : kitB a b = some r) (q : Q (.bl r) H) : rIsi K [x, .ty b] H Q :=
  ⟨x, .ty b, .type a, .type b, r, rfl, .ty _, ty, kit_ty k, q⟩
/-- whether a thing is a whole number -/
def WholeIs (K : PySem.W.Frag) (H : Hp) (x : V) (b : Bool) : Prop := (∃ i, x = .int i ∧ b = true) ∨ (∃ c, x = .bl c ∧ b = false) ∨ (b = false ∧ ∃ t : String, TyX K H x (.type t) ∧ kitB t "int" = some false)
theorem WholeIs.int {K : PySem.W.Frag} {H : Hp} (i : Int) : WholeIs K H (.int i) true := .inl ⟨i, rfl, rfl⟩
def spWhole (K : PySem.W.Frag) : Sp := fun vs H Q _ => ∃ (x : V) (b : Bool), vs = [x] ∧ WholeIs K H x b ∧ Q (.bl b) H
/-! ### the mathematics of fractions in lowest terms -/
def gI (t b : Int) : Int := (Int.gcd t b : Nat)
def lowT (t b : Int) : Int := (if b < 0 then -t else t) / gI t b
def lowB (t b : Int) : Int := (if b < 0 then -b else b) / gI t b
theorem gI_neg (t b : Int) : gI (-t) (-b) = gI t b := by
  unfold gI
  rw [Int.neg_gcd, Int.gcd_neg]
theorem gI_pos {t b : Int} (h : b ≠ 0) : 0 < gI t b := by
  have : 0 < Int.gcd t b := Int.gcd_pos_of_ne_zero_right t h
  unfold gI
  omega
theorem gI_le {t b : Int} (h : b ≠ 0) : (gI t b).natAbs ≤ b.natAbs := by
  have d : Int.gcd t b ∣ b.natAbs := Nat.gcd_dvd_right t.natAbs b.natAbs
  have := Nat.le_of_dvd (by omega) d
  unfold gI
  omega
def spShared : Sp := fun vs H Q _ => ∃ t b : Int, vs = [.int t, .int b] ∧ 0 ≤ b ∧ Q (.int (gI t b)) H
def spLow : Sp := fun vs H Q _ => ∃ t b : Int, vs = [.int t, .int b] ∧ b ≠ 0 ∧ b.natAbs < 2 ^ 4000 ∧ ∀ p, H p = none → Q (.ref p) (upd H p (.tup [.int (lowT t b), .int (lowB t b)]))
/-- two fractions at two places; the tops and bottoms told by f and d -/
def spTwo (K : PySem.W.Frag) (pre : Int → Int → Int → Int → Prop) (f d : Int → Int → Int → Int → Int) : Sp := fun vs H Q _ => ∃ (a c : Addr) (t u v x : Int), vs = [.ref a, .ref c] ∧ SqT K H a [.int t, .int u] ∧ SqT K H c [.int v, .int x] ∧
  pre t u v x ∧ 0 < u ∧ 0 < x ∧ t.natAbs < 2 ^ 1900 ∧ u.natAbs < 2 ^ 1900 ∧ v.natAbs < 2 ^ 1900 ∧ x.natAbs < 2 ^ 1900 ∧ ∀ p, H p = none → Q (.ref p) (upd H p (.tup [.int (lowT (f t u v x) (d t u v x)), .int (lowB (f t u v x) (d t u v x))]))
def spUnder (K : PySem.W.Frag) : Sp := fun vs H Q _ => ∃ (a c : Addr) (t u v x : Int), vs = [.ref a, .ref c] ∧ SqT K H a [.int t, .int u] ∧ SqT K H c [.int v, .int x] ∧
  t.natAbs < 2 ^ 1900 ∧ u.natAbs < 2 ^ 1900 ∧ v.natAbs < 2 ^ 1900 ∧ x.natAbs < 2 ^ 1900 ∧ Q (.bl (decide (t * x < v * u))) H
def absI (t : Int) : Int := if t < 0 then -t else t
def spSize (K : PySem.W.Frag) : Sp := fun vs H Q _ => ∃ (a : Addr) (t u : Int), vs = [.ref a] ∧ SqT K H a [.int t, .int u] ∧ ∀ p, H p = none → Q (.ref p) (upd H p (.tup [.int (absI t), .int u]))
def twoT (m : Int) : Int := if m < 0 then 1 else 2 ^ m.toNat
def twoB (m : Int) : Int := if m < 0 then 2 ^ (-m).toNat else 1
def spTwoTo : Sp := fun vs H Q _ => ∃ m : Int, vs = [.int m] ∧ -400 ≤ m ∧ m ≤ 400 ∧ ∀ p, H p = none → Q (.ref p) (upd H p (.tup [.int (twoT m), .int (twoB m)]))
def spIsFrac : Sp := fun vs H Q _ => ∃ (a : Addr) (t u : Int), vs = [.ref a] ∧ H a = some (.tup [.int t, .int u]) ∧ 1 ≤ u ∧ Q (.bl (decide (gI t u = 1))) H
theorem up {x : Nat} {a b : Nat} (h : x < 2 ^ a) (l : a ≤ b) : x < 2 ^ b := Nat.lt_of_lt_of_le h (Nat.pow_le_pow_right (by decide) l)
theorem same_but {H H1 H2 : Hp} {p : Addr} (s : Same H H1) (b : SameBut p H1 H2) (hp : H p = none) : Same H H2 := fun a o e => b a o (ne_of_none e hp) (s a o e)
theorem iteN {c A B : Prop} [Decidable c] (h1 : ¬ c → A) (h2 : c → B) : if (!decide c) = true then A else B := by
  by_cases h : c
  · rw [decide_eq_true h]
    exact iteF (h2 h)
  · rw [decide_eq_false h]
    exact iteT (h1 h)
theorem Same.free {H H' : Hp} {p : Addr} (s : Same H H') (h : H' p = none) : H p = none := by
  cases e : H p with
  | none => rfl
  | some o =>
    rw [s _ _ e] at h
    cases h
structure Zs (mg : Str → Option Value) : Prop where
  isinstance : mg "isinstance" = none
  int : mg "int" = none
  bool : mg "bool" = none
  tuple : mg "tuple" = none
  len : mg "len" = none
  abs : mg "abs" = none
  list : mg "list" = none
  all : mg "all" = none
  zip : mg "zip" = none
  sum : mg "sum" = none
  max : mg "max" = none
  range : mg "range" = none
  min : mg "min" = none
section
variable {P : Program} {w : World} {K : PySem.W.Frag} {mg : Str → Option Value} {base : Heap}
theorem sc_is_whole : FnScope ["thing"] ["thing"] (defScope s_is_whole) := ⟨rfl, rfl, rfl, by decide +kernel, rfl, by decide +kernel, by decide +kernel⟩
theorem ok_is_whole {f : Addr} {fd : FuncData} {k : Nat} (F : Fun K "is_whole" "is_whole" s_is_whole f fd) (z : Zs mg) : FnOk P w K mg base CX0 (k + 1) f fd ["thing"] (spWhole K) := by
  refine F.ok sc_is_whole (fun vs H Q E h => ?_) (fun cdv A outer s H vs Q E hr h => ?_)
  · obtain ⟨x, b, rfl, _⟩ := h
    rfl
  · obtain ⟨x, b, rfl, hw, q⟩ := h
    refine ⟨_, (pss_one (ps_ret (pe_and (pe_callB call_isi (by rfl) z.isinstance (by decide +kernel) (pa_cons (pv 0) (pa_cons (pe_bltn (v := .ty "int") (by rfl) z.int (by decide +kernel) rfl) pa_nil))) (pe_one (pe_not (pe_callB call_isi (by rfl) z.isinstance (by decide +kernel) (pa_cons (pv 0) (pa_cons (pe_bltn (v := .ty "bool") (by rfl) z.bool (by decide +kernel) rfl) pa_nil)))))))), ?_⟩
    rcases hw with ⟨i, rfl, rfl⟩ | ⟨c, rfl, rfl⟩ | ⟨rfl, t, ty, kt⟩
    · exact ⟨_, rfl, _, .ty "int", _, _, true, rfl, .ty _, .base (.int i), kit_ty (by decide +kernel), _, rfl, iteT ⟨_, rfl, _, .ty "bool", _, _, false, rfl, .ty _, .base (.int i), kit_ty (by decide +kernel), _, rfl, q⟩⟩
    · exact ⟨_, rfl, _, .ty "int", _, _, true, rfl, .ty _, .base (.bl c), kit_ty (by decide +kernel), _, rfl, iteT ⟨_, rfl, _, .ty "bool", _, _, true, rfl, .ty _, .base (.bl c), kit_ty (by decide +kernel), _, rfl, q⟩⟩
    · exact ⟨_, rfl, _, .ty "int", _, _, false, rfl, .ty _, ty, kit_ty kt, _, rfl, iteF q⟩
theorem sc_shared_divisor : FnScope ["top", "bottom", "one", "other"] ["top", "bottom"] (defScope s_shared_divisor) := ⟨rfl, rfl, rfl, by decide +kernel, rfl, by decide +kernel, by decide +kernel⟩
theorem ok_shared_divisor {f : Addr} {fd : FuncData} {k : Nat} (F : Fun K "shared_divisor" "shared_divisor" s_shared_divisor f fd) (z : Zs mg) : FnOk P w K mg base CX0 (k + 1) f fd ["top", "bottom"] spShared := by
  refine F.ok sc_shared_divisor (fun vs H Q E h => ?_) (fun cdv A outer s H vs Q E hr h => ?_)
  · obtain ⟨t, b, rfl, _⟩ := h
    rfl
  · obtain ⟨t, b, rfl, hb, q⟩ := h
    refine ⟨_, (pss_cons (ps_set (i := 2) sc_shared_divisor.nd rfl (.inl rfl) (pe_callB call_abs (by rfl) z.abs (by decide +kernel) (pa_cons (pv 0) pa_nil)))
      (pss_cons (ps_set (i := 3) sc_shared_divisor.nd rfl (.inl rfl) (pv 1))
      (pss_cons (ps_while PassesOwn.never (pt_truth (pv 3) (by intro _; rfl)) (pss_one (ps_par (i := 2) (j := 3) (by rfl) sc_shared_divisor.nd rfl rfl (by decide) rfl rfl (pa_cons (pv 3) (pa_cons (pe_op op_mod (pv 2) (pv 3)) pa_nil)) (by rfl))))
      (pss_one (ps_ret (pv 2)))))), ?_⟩
    refine ⟨_, rfl, _, rfl, ?_⟩
    refine ⟨_, rfl, ?_⟩
    dsimp only [gName, tSeq]
    refine while_by (fun σ H' => H' = H ∧ ∃ m n : Nat, σ = [some (.int t), some (.int b), some (.int (m : Int)), some (.int (n : Int))] ∧ Nat.gcd m n = Int.gcd t b)
      (fun σ _ => match σ with | [_, _, _, some (.int r)] => r.toNat | _ => 0) ⟨rfl, t.natAbs, b.natAbs, ?_, rfl⟩ (fun σ H1 hP => ?_) (fun σ H Q Q' m hh => ?_)
    · have e1 : (if t < 0 then -t else t) = (t.natAbs : Int) := by split <;> omega
      have e2 : b = (b.natAbs : Int) := by omega
      show [some (V.int t), some (V.int b), some (V.int (if t < 0 then -t else t)), some (V.int b)] = _
      rw [e1, ← e2]
    · obtain ⟨rfl, m, n, rfl, hg⟩ := hP
      refine ⟨_, rfl, _, rfl, ?_⟩
      by_cases hn : n = 0
      · subst hn
        have e : ((((0 : Nat) : Int)) != 0) = false := rfl
        rw [e]
        refine iteF ⟨_, rfl, ?_⟩
        rw [Nat.gcd_zero_right] at hg
        have e2 : (m : Int) = gI t b := by
          unfold gI
          rw [hg]
        rw [e2]
        exact q
      · have e : ((n : Int) != 0) = true := by
          rw [bne_iff_ne]
          omega
        rw [e]
        refine iteT ⟨_, rfl, _, rfl, _, rfl, _, _, rfl, rfl, (by omega), _, _, rfl, ⟨⟨rfl, n, m % n, rfl, ?_⟩, ?_⟩⟩
        · rw [← hg, Nat.gcd_comm n (m % n), ← Nat.gcd_rec n m, Nat.gcd_comm]
        · show ((m : Int) % (n : Int)).toNat < ((n : Int)).toNat
          have := Int.emod_lt_of_pos (m : Int) (show (0 : Int) < n by omega)
          have := Int.emod_nonneg (m : Int) (show (n : Int) ≠ 0 by omega)
          omega
    · obtain ⟨v, e, kk, tv, hq⟩ := hh
      exact ⟨v, e, kk, tv, m _ _ hq⟩
theorem sc_lowest : FnScope ["top", "bottom", "shared"] ["top", "bottom"] (defScope s_lowest) := ⟨rfl, rfl, rfl, by decide +kernel, rfl, by decide +kernel, by decide +kernel⟩
theorem ok_lowest {f : Addr} {fd : FuncData} (F : Fun K "lowest" "lowest" s_lowest f fd) (c_shared_divisor : Cal P w K mg base 1 "shared_divisor" ["top", "bottom"] spShared) : FnOk P w K mg base CX0 2 f fd ["top", "bottom"] spLow := by
  refine F.ok sc_lowest (fun vs H Q E h => ?_) (fun cdv A outer s H vs Q E hr h => ?_)
  · obtain ⟨t, b, rfl, _⟩ := h
    rfl
  · obtain ⟨t, b, rfl, hb, hl, q⟩ := h
    refine ⟨_, (pss_cons (ps_if (pt_cmpR op_lt (pv 1) pe_int (nomark _)) (pss_cons (ps_set (i := 0) sc_lowest.nd rfl (.inl rfl) (pe_un un_neg (pv 0)))
      (pss_one (ps_set (i := 1) sc_lowest.nd rfl (.inl rfl) (pe_un un_neg (pv 1))))) pss_nil)
      (pss_cons (ps_set (i := 2) sc_lowest.nd rfl (.inl rfl) (pe_cal c_shared_divisor hr (pa_cons (pv 0) (pa_cons (pv 1) pa_nil))))
      (pss_one (ps_ret (pe_tup (pa_cons (pe_op op_fdivW (pv 0) (pv 2)) (pa_cons (pe_op op_fdivW (pv 1) (pv 2)) pa_nil))))))), ?_⟩
    have g0 := gI_pos (t := t) hb
    have g1 : (gI t b).natAbs < 2 ^ 4000 := Nat.lt_of_le_of_lt (gI_le hb) hl
    refine ⟨_, rfl, _, _, rfl, rfl, _, rfl, ite2 (fun c => ?_) (fun c => ?_)⟩
    · have hc := toB c
      refine ⟨_, rfl, _, rfl, ?_⟩
      refine ⟨_, rfl, _, rfl, ?_⟩
      refine ⟨_, rfl, _, rfl, -t, -b, rfl, by omega, ?_⟩
      rw [gI_neg]
      refine ⟨_, rfl, _, rfl, _, _, rfl, rfl, wide_div g0 g1 (by decide) (by decide), _, rfl, _, rfl, _, _, rfl, rfl, wide_div g0 g1 (by decide) (by decide), (by show 2 ≤ sizeLine; decide), fun p hp => ?_⟩
      have := q p hp
      unfold lowT lowB at this
      rw [if_pos hc, if_pos hc] at this
      exact this
    · have hc := toNB c
      refine ⟨_, rfl, _, rfl, t, b, rfl, by omega, ?_⟩
      refine ⟨_, rfl, _, rfl, _, _, rfl, rfl, wide_div g0 g1 (by decide) (by decide), _, rfl, _, rfl, _, _, rfl, rfl, wide_div g0 g1 (by decide) (by decide), (by show 2 ≤ sizeLine; decide), fun p hp => ?_⟩
      have := q p hp
      unfold lowT lowB at this
      rw [if_neg hc, if_neg hc] at this
      exact this
theorem sc_minus : FnScope ["one", "other"] ["one", "other"] (defScope s_minus) := ⟨rfl, rfl, rfl, by decide +kernel, rfl, by decide +kernel, by decide +kernel⟩
theorem ok_minus {f : Addr} {fd : FuncData} (F : Fun K "minus" "minus" s_minus f fd) (c_lowest : Cal P w K mg base 2 "lowest" ["top", "bottom"] spLow) : FnOk P w K mg base CX0 3 f fd ["one", "other"] (spTwo K (fun t u v x => True) (fun t u v x => t * x - v * u) (fun t u v x => u * x)) := by
  refine F.ok sc_minus (fun vs H Q E h => ?_) (fun cdv A outer s H vs Q E hr h => ?_)
  · obtain ⟨a, c, t, u, v, x, rfl, _⟩ := h
    rfl
  · obtain ⟨a, c, t, u, v, x, rfl, ha, hc, pr, hu, hx, b1, b2, b3, b4, q⟩ := h
    refine ⟨_, (pss_one (ps_ret (pe_cal c_lowest hr (pa_cons (pe_op op_sub (pe_op op_mulW (pe_ix ix_tup (pv 0) pe_int (fun _ _ => rfl)) (pe_ix ix_tup (pv 1) pe_int (fun _ _ => rfl))) (pe_op op_mulW (pe_ix ix_tup (pv 1) pe_int (fun _ _ => rfl)) (pe_ix ix_tup (pv 0) pe_int (fun _ _ => rfl)))) (pa_cons (pe_op op_mulW (pe_ix ix_tup (pv 0) pe_int (fun _ _ => rfl)) (pe_ix ix_tup (pv 1) pe_int (fun _ _ => rfl))) pa_nil))))), ?_⟩
    have nz : u * x ≠ 0 := Int.mul_ne_zero (by omega) (by omega)
    refine ⟨_, rfl, a, _, 0, .int t, rfl, rfl, ha, a0, _, rfl, c, _, 1, .int x, rfl, rfl, hc, a1, _, _, rfl, rfl, wide_mul b1 b4 (by decide) (by decide) (by decide), _, rfl, c, _, 0, .int v, rfl, rfl, hc, a0, _, rfl, a, _, 1, .int u, rfl, rfl, ha, a1, _, _, rfl, rfl, wide_mul b3 b2 (by decide) (by decide) (by decide), _, _, rfl, rfl, _, rfl, a, _, 1, .int u, rfl, rfl, ha, a1, _, rfl, c, _, 1, .int x, rfl, rfl, hc, a1, _, _, rfl, rfl, wide_mul b2 b4 (by decide) (by decide) (by decide), _, _, rfl, nz, ?_, q⟩
    exact Nat.lt_of_lt_of_le (wide_lt b2 b4) (Nat.pow_le_pow_right (by decide) (by decide))
theorem sc_divided : FnScope ["one", "other"] ["one", "other"] (defScope s_divided) := ⟨rfl, rfl, rfl, by decide +kernel, rfl, by decide +kernel, by decide +kernel⟩
theorem ok_divided {f : Addr} {fd : FuncData} (F : Fun K "divided" "divided" s_divided f fd) (c_lowest : Cal P w K mg base 2 "lowest" ["top", "bottom"] spLow) : FnOk P w K mg base CX0 3 f fd ["one", "other"] (spTwo K (fun t u v x => v ≠ 0) (fun t u v x => t * x) (fun t u v x => u * v)) := by
  refine F.ok sc_divided (fun vs H Q E h => ?_) (fun cdv A outer s H vs Q E hr h => ?_)
  · obtain ⟨a, c, t, u, v, x, rfl, _⟩ := h
    rfl
  · obtain ⟨a, c, t, u, v, x, rfl, ha, hc, pr, hu, hx, b1, b2, b3, b4, q⟩ := h
    refine ⟨_, (pss_cons (ps_if (pt_cmpR op_eq (pe_ix ix_tup (pv 1) pe_int (fun _ _ => rfl)) pe_int (nomark _)) (pss_one ps_never) pss_nil)
      (pss_one (ps_ret (pe_cal c_lowest hr (pa_cons (pe_op op_mulW (pe_ix ix_tup (pv 0) pe_int (fun _ _ => rfl)) (pe_ix ix_tup (pv 1) pe_int (fun _ _ => rfl))) (pa_cons (pe_op op_mulW (pe_ix ix_tup (pv 0) pe_int (fun _ _ => rfl)) (pe_ix ix_tup (pv 1) pe_int (fun _ _ => rfl))) pa_nil)))))), ?_⟩
    have nz : u * v ≠ 0 := Int.mul_ne_zero (by omega) pr
    refine ⟨_, rfl, c, _, 0, .int v, rfl, rfl, hc, a0, rfl, _, rfl, ite2 (fun c' => absurd (V.int.inj (toB c')) pr) (fun _ => ?_)⟩
    refine ⟨_, rfl, a, _, 0, .int t, rfl, rfl, ha, a0, _, rfl, c, _, 1, .int x, rfl, rfl, hc, a1, _, _, rfl, rfl, wide_mul b1 b4 (by decide) (by decide) (by decide), _, rfl, a, _, 1, .int u, rfl, rfl, ha, a1, _, rfl, c, _, 0, .int v, rfl, rfl, hc, a0, _, _, rfl, rfl, wide_mul b2 b3 (by decide) (by decide) (by decide), _, _, rfl, nz, ?_, q⟩
    exact Nat.lt_of_lt_of_le (wide_lt b2 b3) (Nat.pow_le_pow_right (by decide) (by decide))
theorem sc_is_fraction : FnScope ["thing", "top", "bottom"] ["thing"] (defScope s_is_fraction) := ⟨rfl, rfl, rfl, by decide +kernel, rfl, by decide +kernel, by decide +kernel⟩
theorem ok_is_fraction {f : Addr} {fd : FuncData} (F : Fun K "is_fraction" "is_fraction" s_is_fraction f fd) (z : Zs mg) (c_is_whole : Cal P w K mg base 1 "is_whole" ["thing"] (spWhole K)) (c_shared_divisor : Cal P w K mg base 1 "shared_divisor" ["top", "bottom"] spShared) : FnOk P w K mg base CX0 2 f fd ["thing"] spIsFrac := by
  refine F.ok sc_is_fraction (fun vs H Q E h => ?_) (fun cdv A outer s H vs Q E hr h => ?_)
  · obtain ⟨a, t, u, rfl, _⟩ := h
    rfl
  · obtain ⟨a, t, u, rfl, ha, hu, q⟩ := h
    refine ⟨_, (pss_cons (ps_if (PW.pt (pw_or (pt_not (pt_val (pe_callB call_isi (by rfl) z.isinstance (by decide +kernel) (pa_cons (pv 0) (pa_cons (pe_bltn (v := .ty "tuple") (by rfl) z.tuple (by decide +kernel) rfl) pa_nil))))) (pw_or1 (pt_cmpR op_ne (pe_callB call_len_seq (by rfl) z.len PySem.boot_len (pa_cons (pv 0) pa_nil)) pe_int (nomark _))))) (pss_one (ps_ret pe_bl)) pss_nil)
      (pss_cons (ps_asg (pv 0) (pg_tup (by rfl) (pgs_cons (pg_name (i := 1) sc_is_fraction.nd rfl (.inl rfl)) (pgs_cons (pg_name (i := 2) sc_is_fraction.nd rfl (.inl rfl)) pgs_nil))))
      (pss_cons (ps_if (PW.pt (pw_or (pt_not (pt_val (pe_cal c_is_whole hr (pa_cons (pv 1) pa_nil)))) (pw_or (pt_not (pt_val (pe_cal c_is_whole hr (pa_cons (pv 2) pa_nil)))) (pw_or1 (pt_cmpR op_lt (pv 2) pe_int (nomark _)))))) (pss_one (ps_ret pe_bl)) pss_nil)
      (pss_one (ps_ret (pe_cmpR op_eq (pe_cal c_shared_divisor hr (pa_cons (pv 1) (pa_cons (pv 2) pa_nil))) pe_int (nomark _))))))), ?_⟩
    refine ⟨_, rfl, _, .ty "tuple", _, _, true, rfl, .ty _, .base (.tup ha), kit_ty (by decide +kernel), _, rfl, iteF ⟨_, rfl, a, _, rfl, .inr (SqT.of ha), rfl, _, rfl, iteF ?_⟩⟩
    refine ⟨_, rfl, a, _, rfl, SqT.of ha, rfl, _, _, rfl, _, _, rfl, rfl, ?_⟩
    refine ⟨_, rfl, _, _, rfl, .int t, _, rfl, iteF ⟨_, rfl, _, _, rfl, .int u, _, rfl, iteF ⟨_, rfl, _, _, rfl, rfl, _, rfl, ite2 (fun c => ?_) (fun c => ?_)⟩⟩⟩
    · have := toB c
      omega
    · refine ⟨_, rfl, _, rfl, t, u, rfl, by omega, rfl, ?_⟩
      have e : (decide (V.int (gI t u) = V.int 1)) = decide (gI t u = 1) := by
        by_cases h : gI t u = 1
        · rw [h]
          rfl
        · rw [decide_eq_false h, decide_eq_false (fun z => h (V.int.inj z))]
      rw [e]
      exact q
end
end E1

namespace E1
open PySem PySem.Spec PyProof.Rows L2
/-! ### sums and convolutions of fractions -/
def sg (f : Nat → Rat) : Nat → Rat
  | 0 => 0
  | n + 1 => sg f n + f n
theorem sg_congr {f g : Nat → Rat} : ∀ n, (∀ i, i < n → f i = g i) → sg f n = sg g n
  | 0, _ => rfl
  | n + 1, h => by
    show sg f n + f n = sg g n + g n
    rw [sg_congr n fun i hi => h i (by omega), h n (by omega)]
theorem sg_zero {f : Nat → Rat} (n : Nat) (h : ∀ i, i < n → f i = 0) : sg f n = 0 := by
  induction n with
  | zero => rfl
  | succ n ih =>
    show sg f n + f n = 0
    rw [ih fun i hi => h i (by omega), h n (by omega)]
    grind
theorem sg_first (f : Nat → Rat) : ∀ n, sg f (n + 1) = f 0 + sg (fun i => f (i + 1)) n
  | 0 => by
    show 0 + f 0 = f 0 + 0
    grind
  | n + 1 => by
    show sg f (n + 1) + f (n + 1) = f 0 + (sg (fun i => f (i + 1)) n + f (n + 1))
    rw [sg_first f n]
    grind
theorem sg_mul (c : Rat) (f : Nat → Rat) : ∀ n, sg (fun i => c * f i) n = c * sg f n
  | 0 => by
    show (0 : Rat) = c * 0
    grind
  | n + 1 => by
    show sg (fun i => c * f i) n + c * f n = c * (sg f n + f n)
    rw [sg_mul c f n]
    grind
theorem sg_add (f g : Nat → Rat) : ∀ n, sg (fun i => f i + g i) n = sg f n + sg g n
  | 0 => by
    show (0 : Rat) = 0 + 0
    grind
  | n + 1 => by
    show sg (fun i => f i + g i) n + (f n + g n) = sg f n + f n + (sg g n + g n)
    rw [sg_add f g n]
    grind
/-- the place m of the product -/
def cv (f g : Nat → Rat) (m : Nat) : Rat := sg (fun i => f i * g (m - i)) (m + 1)
theorem cv_zero (f g : Nat → Rat) : cv f g 0 = f 0 * g 0 := by
  show 0 + f 0 * g 0 = f 0 * g 0
  grind
theorem cv_succ (f g : Nat → Rat) (m : Nat) : cv f g (m + 1) = f 0 * g (m + 1) + cv (fun i => f (i + 1)) g m := by
  unfold cv
  rw [sg_first]
  congr 1
  apply sg_congr
  intro i hi
  show f (i + 1) * g (m + 1 - (i + 1)) = f (i + 1) * g (m - i)
  rw [show m + 1 - (i + 1) = m - i by omega]
theorem cv_congr {f f' g g' : Nat → Rat} {m : Nat} (h1 : ∀ i, i ≤ m → f i = f' i) (h2 : ∀ i, i ≤ m → g i = g' i) : cv f g m = cv f' g' m := by
  unfold cv
  apply sg_congr
  intro i hi
  rw [h1 i (by omega), h2 (m - i) (by omega)]
theorem cv_lin (f g h : Nat → Rat) (c : Rat) (m : Nat) : cv f (fun i => c * g i + h i) m = c * cv f g m + cv f h m := by
  unfold cv
  rw [← sg_mul, ← sg_add]
  apply sg_congr
  intro i _
  grind
theorem cv_sub (f g h : Nat → Rat) (m : Nat) : cv f (fun i => g i - h i) m = cv f g m - cv f h m := by
  have e := cv_lin f h (fun i => g i - h i) 1 m
  have e2 : (fun i => 1 * h i + (g i - h i)) = g := by
    funext i
    grind
  rw [e2] at e
  grind
/-- the row moved on by one -/
def sh (u : Nat → Rat) : Nat → Rat
  | 0 => 0
  | n + 1 => u n
theorem cv_sh (f u : Nat → Rat) (m : Nat) : cv f (sh u) (m + 1) = cv f u m := by
  unfold cv
  show sg (fun i => f i * sh u (m + 1 - i)) (m + 1) + f (m + 1) * sh u (m + 1 - (m + 1)) = _
  rw [Nat.sub_self]
  show _ + f (m + 1) * 0 = _
  have e : sg (fun i => f i * sh u (m + 1 - i)) (m + 1) = sg (fun i => f i * u (m - i)) (m + 1) := by
    apply sg_congr
    intro i hi
    rw [show m + 1 - i = (m - i) + 1 by omega]
    rfl
  rw [e]
  grind
theorem cv_sh0 (f u : Nat → Rat) : cv f (sh u) 0 = 0 := by
  rw [cv_zero]
  show f 0 * 0 = 0
  grind
theorem cv_swap : ∀ (m : Nat) (f g h : Nat → Rat), cv f (cv g h) m = cv g (cv f h) m
  | 0, f, g, h => by
    rw [cv_zero, cv_zero, cv_zero, cv_zero]
    grind
  | m + 1, f, g, h => by
    have split : ∀ f g : Nat → Rat, cv f (cv g h) (m + 1) = f 0 * (g 0 * h (m + 1)) + f 0 * cv (fun i => g (i + 1)) h m + cv (fun i => f (i + 1)) (cv g h) m := fun f g => by
      rw [cv_succ, cv_succ]
      grind
    have inner : ∀ g : Nat → Rat, cv g h = fun i => g 0 * h i + sh (cv (fun i => g (i + 1)) h) i := fun g => by
      funext i
      cases i with
      | zero =>
        rw [cv_zero]
        show g 0 * h 0 = g 0 * h 0 + 0
        grind
      | succ i => exact cv_succ g h i
    rw [split f g, split g f]
    rw [cv_swap m (fun i => f (i + 1)) g h]
    have e1 : cv (fun i => g (i + 1)) (cv f h) m = f 0 * cv (fun i => g (i + 1)) h m + cv (fun i => g (i + 1)) (sh (cv (fun i => f (i + 1)) h)) m := by
      rw [inner f, cv_lin]
    rw [e1]
    cases m with
    | zero =>
      rw [cv_sh0, cv_zero, cv_zero]
      grind
    | succ m =>
      rw [cv_sh, cv_succ g]
      grind
/-- what vanishes ahead of k -/
theorem cv_low {f g : Nat → Rat} {k m : Nat} (h : ∀ i, i < k → g i = 0) (hm : m ≤ k) : cv f g m = if m = k then f 0 * g k else 0 := by
  cases m with
  | zero =>
    rw [cv_zero]
    split
    · next e => rw [e]
    · rw [h 0 (by omega)]
      grind
  | succ m =>
    rw [cv_succ]
    have z : cv (fun i => f (i + 1)) g m = 0 := by
      unfold cv
      apply sg_zero
      intro i hi
      rw [h (m - i) (by omega)]
      grind
    rw [z]
    split
    · next e =>
      rw [e]
      grind
    · rw [h (m + 1) (by omega)]
      grind
/-- two responses part just where the products do -/
theorem part_at {b t h b' t' h' : Nat → Rat} {n : Nat} (r : ∀ m, m ≤ n → cv b h m = t m) (r' : ∀ m, m ≤ n → cv b' h' m = t' m) (b0 : b 0 ≠ 0) (b0' : b' 0 ≠ 0) :
    ∀ k, k ≤ n → (∀ i, i < k → cv b' t i = cv b t' i) → (∀ i, i < k → h i = h' i) ∧ (h k = h' k ↔ cv b' t k = cv b t' k) := by
  have key : ∀ k, k ≤ n → (∀ i, i < k → h i = h' i) → cv b' t k - cv b t' k = b 0 * b' 0 * (h k - h' k) := fun k hk hh => by
    have e1 : cv b' t k = cv b' (cv b h) k := cv_congr (fun _ _ => rfl) fun i hi => (r i (by omega)).symm
    have e2 : cv b t' k = cv b (cv b' h') k := cv_congr (fun _ _ => rfl) fun i hi => (r' i (by omega)).symm
    rw [e1, e2, cv_swap k b' b h, ← cv_sub]
    have e3 : ∀ m, m ≤ k → cv b' h m - cv b' h' m = if m = k then b' 0 * (h k - h' k) else 0 := fun m hm => by
      rw [← cv_sub, cv_low (k := k) (fun i hi => by show h i - h' i = 0; rw [hh i hi]; grind) hm]
    rw [cv_low (k := k) (fun i hi => by rw [e3 i (by omega), if_neg (by omega)]) (Nat.le_refl k), if_pos rfl, e3 k (Nat.le_refl k), if_pos rfl]
    grind
  intro k
  induction k with
  | zero =>
    intro hk _
    refine ⟨fun i hi => absurd hi (by omega), ?_⟩
    have e := key 0 hk (fun i hi => absurd hi (by omega))
    constructor
    · intro z
      rw [z] at e
      grind
    · intro z
      rw [z] at e
      grind
  | succ k ih =>
    intro hk hh
    obtain ⟨i1, i2⟩ := ih (by omega) fun i hi => hh i (by omega)
    have all : ∀ i, i < k + 1 → h i = h' i := fun i hi => by
      by_cases c : i < k
      · exact i1 i c
      · rw [show i = k by omega]
        exact i2.mpr (hh k (by omega))
    refine ⟨all, ?_⟩
    have e := key (k + 1) hk all
    constructor
    · intro z
      rw [z] at e
      grind
    · intro z
      rw [z] at e
      grind
/-! ### lists of fractions -/
def fn (qs : List Rat) (i : Nat) : Rat := qs.getD i 0
def sumR : List Rat → Rat
  | [] => 0
  | x :: xs => x + sumR xs
def dotR : List Rat → List Rat → Rat
  | x :: xs, y :: ys => x * y + dotR xs ys
  | _, _ => 0
theorem sumR_append : ∀ xs ys : List Rat, sumR (xs ++ ys) = sumR xs + sumR ys
  | [], ys => by
    show sumR ys = 0 + sumR ys
    grind
  | x :: xs, ys => by
    show x + sumR (xs ++ ys) = x + sumR xs + sumR ys
    rw [sumR_append xs ys]
    grind
theorem fn_lt {qs : List Rat} {i : Nat} {q : Rat} (h : qs[i]? = some q) : fn qs i = q := by
  unfold fn
  rw [List.getD_eq_getElem?_getD, h]
  rfl
theorem fn_ge {qs : List Rat} {i : Nat} (h : qs.length ≤ i) : fn qs i = 0 := by
  unfold fn
  rw [List.getD_eq_getElem?_getD, List.getElem?_eq_none h]
  rfl
/-- a sum over the first n places -/
theorem sum_map (f : Nat → Rat) : ∀ n, sumR ((List.range n).map f) = sg f n
  | 0 => rfl
  | n + 1 => by
    rw [List.range_succ, List.map_append, sumR_append, sum_map f n]
    show sg f n + (f n + 0) = sg f n + f n
    grind
theorem sum_filter (f : Nat → Rat) (p : Nat → Bool) : ∀ n, sumR (((List.range n).filter p).map f) = sg (fun i => if p i = true then f i else 0) n
  | 0 => rfl
  | n + 1 => by
    rw [List.range_succ, List.filter_append, List.map_append, sumR_append, sum_filter f p n]
    show _ = sg (fun i => if p i = true then f i else 0) n + (if p n = true then f n else 0)
    congr 1
    by_cases c : p n = true
    · rw [if_pos c, List.filter_cons, if_pos c]
      show f n + 0 = f n
      grind
    · rw [if_neg c, List.filter_cons, if_neg c]
      rfl
theorem sg_more (f : Nat → Rat) (n : Nat) : ∀ m, (∀ i, n ≤ i → i < n + m → f i = 0) → sg f (n + m) = sg f n
  | 0, _ => rfl
  | m + 1, h => by
    show sg f (n + m) + f (n + m) = sg f n
    rw [sg_more f n m fun i h1 h2 => h i h1 (by omega), h (n + m) (by omega) (by omega)]
    grind
theorem sg_upto (f : Nat → Rat) {n m : Nat} (h : ∀ i, (n ≤ i ∨ m ≤ i) → f i = 0) : sg f n = sg f m := by
  by_cases c : n ≤ m
  · have e := sg_more f n (m - n) (fun i h1 _ => h i (.inl h1))
    rw [show n + (m - n) = m by omega] at e
    exact e.symm
  · have e := sg_more f m (n - m) (fun i h1 _ => h i (.inr h1))
    rw [show m + (n - m) = n by omega] at e
    exact e
/-- the law's own sum of a place -/
theorem law_place (xs ys : List Rat) (k : Nat) : sumR (((List.range xs.length).filter fun j => decide (j ≤ k ∧ k < j + ys.length)).map fun j => fn xs j * fn ys (k - j)) = cv (fn xs) (fn ys) k := by
  rw [sum_filter]
  unfold cv
  have e1 : sg (fun i => if decide (i ≤ k ∧ k < i + ys.length) = true then fn xs i * fn ys (k - i) else 0) xs.length = sg (fun i => if decide (i ≤ k ∧ k < i + ys.length) = true then fn xs i * fn ys (k - i) else 0) (k + 1) := by
    apply sg_upto
    intro i hi
    show (if decide (i ≤ k ∧ k < i + ys.length) = true then fn xs i * fn ys (k - i) else 0) = 0
    rcases hi with h | h
    · rw [fn_ge h]
      split
      · grind
      · rfl
    · rw [if_neg (by rw [decide_eq_true_eq]; omega)]
  rw [e1]
  apply sg_congr
  intro i hi
  show (if decide (i ≤ k ∧ k < i + ys.length) = true then fn xs i * fn ys (k - i) else 0) = fn xs i * fn ys (k - i)
  by_cases c : k < i + ys.length
  · rw [if_pos (by rw [decide_eq_true_eq]; omega)]
  · rw [if_neg (by rw [decide_eq_true_eq]; omega), fn_ge (qs := ys) (by omega)]
    grind
/-- two lists place by place -/
theorem dot_map (f g : Nat → Rat) (n : Nat) : ∀ m, dotR ((List.range' n m).map f) ((List.range' n m).map g) = sg (fun i => f (n + i) * g (n + i)) m := by
  intro m
  induction m generalizing n with
  | zero => rfl
  | succ m ih =>
    rw [List.range'_succ, List.map_cons, List.map_cons]
    show f n * g n + dotR ((List.range' (n + 1) m).map f) ((List.range' (n + 1) m).map g) = _
    rw [ih (n + 1), sg_first]
    congr 1
    apply sg_congr
    intro i _
    rw [show n + 1 + i = n + (i + 1) by omega]
theorem drop_range {xs : List Rat} {n m : Nat} (h : n + m ≤ xs.length) : (xs.drop n).take m = (List.range' n m).map (fn xs) := by
  apply List.ext_getElem?
  intro i
  rw [List.getElem?_take, List.getElem?_drop, List.getElem?_map]
  by_cases c : i < m
  · rw [if_pos c, List.getElem?_range' c, List.getElem?_eq_getElem (show n + i < xs.length by omega)]
    show _ = some (fn xs (n + 1 * i))
    rw [Nat.one_mul, fn_lt (List.getElem?_eq_getElem (show n + i < xs.length by omega))]
  · rw [if_neg c, List.getElem?_eq_none (by rw [List.length_range']; omega)]
    rfl
/-- the program's own sum of a place -/
theorem prog_place (xs ys : List Rat) (k : Nat) {f m : Nat} (hf : f = k + 1 - ys.length) (hm : m = min (k + 1) xs.length - f) : dotR ((List.range' f m).map (fn xs)) ((List.range' f m).map fun j => fn ys (k - j)) = cv (fn xs) (fn ys) k := by
  rw [dot_map]
  unfold cv
  have low : sg (fun i => fn xs i * fn ys (k - i)) f = 0 := sg_zero f fun i hi => by
    rw [fn_ge (qs := ys) (by omega)]
    grind
  have cut : ∀ m, sg (fun i => fn xs i * fn ys (k - i)) (f + m) = sg (fun i => fn xs (f + i) * fn ys (k - (f + i))) m := by
    intro m
    induction m with
    | zero => exact low
    | succ m ih =>
      show sg (fun i => fn xs i * fn ys (k - i)) (f + m) + fn xs (f + m) * fn ys (k - (f + m)) = sg (fun i => fn xs (f + i) * fn ys (k - (f + i))) m + fn xs (f + m) * fn ys (k - (f + m))
      rw [ih]
  rw [← cut m]
  by_cases c : k + 1 ≤ xs.length
  · by_cases c2 : f ≤ k + 1
    · rw [show f + m = k + 1 by omega]
    · omega
  · by_cases c2 : f ≤ xs.length
    · rw [show f + m = xs.length by omega]
      have := sg_more (fun i => fn xs i * fn ys (k - i)) xs.length (k + 1 - xs.length) fun i h1 _ => by
        show fn xs i * fn ys (k - i) = 0
        rw [fn_ge h1]
        grind
      rw [show xs.length + (k + 1 - xs.length) = k + 1 by omega] at this
      exact this.symm
    · have m0 : m = 0 := by omega
      rw [m0, Nat.add_zero, low]
      symm
      apply sg_zero
      intro i hi
      show fn xs i * fn ys (k - i) = 0
      by_cases c3 : i < xs.length
      · rw [fn_ge (qs := ys) (by omega)]
        grind
      · rw [fn_ge (qs := xs) (by omega)]
        grind
/-! ### the response -/
/-- the next place behind the row -/
def nxt (t b row : List Rat) : Rat := (fn t row.length - dotR b.tail row.reverse) / fn b 0
def quo (t b : List Rat) : Nat → List Rat
  | 0 => []
  | n + 1 => quo t b n ++ [nxt t b (quo t b n)]
theorem quo_len (t b : List Rat) : ∀ n, (quo t b n).length = n
  | 0 => rfl
  | n + 1 => by
    show (quo t b n ++ [nxt t b (quo t b n)]).length = n + 1
    rw [List.length_append, quo_len t b n]
    rfl
theorem dot_sg : ∀ xs ys : List Rat, dotR xs ys = sg (fun i => fn xs i * fn ys i) ys.length
  | [], ys => by
    symm
    show sg _ _ = 0
    apply sg_zero
    intro i _
    rw [fn_ge (Nat.zero_le _)]
    grind
  | x :: xs, [] => rfl
  | x :: xs, y :: ys => by
    show x * y + dotR xs ys = sg _ (ys.length + 1)
    rw [sg_first, dot_sg xs ys]
    rfl
theorem fn_tail (b : List Rat) (i : Nat) : fn b.tail i = fn b (i + 1) := by
  cases b with
  | nil => rfl
  | cons x xs => rfl
theorem fn_rev (row : List Rat) {i : Nat} (h : i < row.length) : fn row.reverse i = fn row (row.length - 1 - i) := by
  unfold fn
  rw [List.getD_eq_getElem?_getD, List.getD_eq_getElem?_getD, List.getElem?_reverse h]
theorem quo_fn (t b : List Rat) {i : Nat} : ∀ {n m : Nat}, i < n → n ≤ m → fn (quo t b m) i = fn (quo t b n) i := by
  intro n m h1 h2
  induction m with
  | zero => omega
  | succ m ih =>
    by_cases c : n ≤ m
    · rw [← ih c]
      show fn (quo t b m ++ [_]) i = _
      unfold fn
      rw [List.getD_eq_getElem?_getD, List.getD_eq_getElem?_getD, List.getElem?_append_left (by rw [quo_len]; omega)]
    · rw [show n = m + 1 by omega]
theorem quo_ok (t b : List Rat) (b0 : fn b 0 ≠ 0) (n k : Nat) (h : k < n) : cv (fn b) (fn (quo t b n)) k = fn t k := by
  have e0 : cv (fn b) (fn (quo t b n)) k = cv (fn b) (fn (quo t b (k + 1))) k := cv_congr (fun _ _ => rfl) fun i hi => quo_fn t b (show i < k + 1 by omega) (by omega)
  rw [e0]
  have last : fn (quo t b (k + 1)) k = nxt t b (quo t b k) := by
    show fn (quo t b k ++ [nxt t b (quo t b k)]) k = _
    apply fn_lt
    rw [List.getElem?_append_right (by rw [quo_len]; exact Nat.le_refl _), quo_len, Nat.sub_self]
    rfl
  have den : fn b 0 * nxt t b (quo t b k) = fn t k - dotR b.tail (quo t b k).reverse := by
    unfold nxt
    rw [quo_len]
    grind
  unfold cv
  rw [sg_first]
  show fn b 0 * fn (quo t b (k + 1)) (k - 0) + _ = _
  rw [Nat.sub_zero, last, den, dot_sg, List.length_reverse, quo_len]
  have e : sg (fun i => fn b (i + 1) * fn (quo t b (k + 1)) (k - (i + 1))) k = sg (fun i => fn b.tail i * fn (quo t b k).reverse i) k := by
    apply sg_congr
    intro i hi
    rw [fn_tail, fn_rev _ (by rw [quo_len]; exact hi), quo_len, show k - (i + 1) = k - 1 - i by omega]
    rw [quo_fn t b (n := k) (m := k + 1) (by omega) (by omega)]
  rw [e]
  grind
/-! ### fractions in lowest terms -/
theorem lowT_num {t b : Int} (hb : b ≠ 0) : lowT t b = (Rat.divInt t b).num := by
  rw [Rat.num_divInt]
  unfold lowT gI
  rw [Int.gcd_comm b t]
  split
  · next h =>
    rw [Int.sign_eq_neg_one_of_neg h, Int.neg_mul, Int.one_mul]
  · next h =>
    rw [Int.sign_eq_one_of_pos (by omega), Int.one_mul]
theorem lowB_den {t b : Int} (hb : b ≠ 0) : lowB t b = ((Rat.divInt t b).den : Int) := by
  rw [Rat.den_divInt, if_neg hb]
  unfold lowB gI
  rw [Int.gcd_comm b t, Int.natCast_ediv]
  congr 1
  split <;> omega
theorem den_ne (q : Rat) : (q.den : Int) ≠ 0 := by
  have := q.den_pos
  omega
theorem den_ge (q : Rat) : (0 : Int) < q.den := by
  have := q.den_pos
  omega
theorem q_eq (q : Rat) : q * (q.den : Int) = (q.num : Rat) := by
  have h := Rat.num_divInt_den q
  rw [Rat.divInt_eq_div] at h
  have d : ((q.den : Int) : Rat) ≠ 0 := by
    intro z
    have : (q.den : Int) = 0 := by exact_mod_cast z
    exact den_ne q this
  grind
theorem cast_ne {n : Int} (h : n ≠ 0) : (n : Rat) ≠ 0 := fun z => h (by exact_mod_cast z)
theorem div_q {t b : Int} (h : b ≠ 0) : Rat.divInt t b * (b : Rat) = (t : Rat) := by
  rw [Rat.divInt_eq_div]
  have := cast_ne h
  grind
theorem div_is {t b : Int} (h : b ≠ 0) {q : Rat} (e : q * (b : Rat) = (t : Rat)) : Rat.divInt t b = q := by
  have := div_q (t := t) h
  have := cast_ne h
  grind
theorem minus_q (q r : Rat) : Rat.divInt (q.num * r.den - r.num * q.den) (q.den * r.den) = q - r := by
  apply div_is (Int.mul_ne_zero (den_ne q) (den_ne r))
  have a := q_eq q
  have b := q_eq r
  push_cast at *
  grind
theorem times_q (q r : Rat) : Rat.divInt (q.num * r.num) (q.den * r.den) = q * r := by
  apply div_is (Int.mul_ne_zero (den_ne q) (den_ne r))
  have a := q_eq q
  have b := q_eq r
  push_cast at *
  grind
theorem num_ne {q : Rat} (h : q ≠ 0) : q.num ≠ 0 := fun z => by
  have a := q_eq q
  rw [z] at a
  have d := cast_ne (den_ne q)
  have : ((0 : Int) : Rat) = 0 := rfl
  grind
theorem num_eq {q : Rat} (h : q.num = 0) : q = 0 := by
  by_cases c : q = 0
  · exact c
  · exact absurd h (num_ne c)
theorem divided_q (q r : Rat) (h : r ≠ 0) : Rat.divInt (q.num * r.den) (q.den * r.num) = q / r := by
  apply div_is (Int.mul_ne_zero (den_ne q) (num_ne h))
  have a := q_eq q
  have b := q_eq r
  have d1 := cast_ne (den_ne q)
  have d2 := cast_ne (den_ne r)
  push_cast at *
  grind
theorem q_gcd (q : Rat) : gI q.num q.den = 1 := by
  have := q.reduced
  unfold gI
  show ((Nat.gcd q.num.natAbs (q.den : Int).natAbs : Nat) : Int) = 1
  rw [Int.natAbs_natCast, this]
  rfl
/-! ### sizes -/
def Sc (D : Int) (B : Nat) (q : Rat) : Prop := ∃ n : Int, q * (D : Rat) = (n : Rat) ∧ n.natAbs ≤ B
theorem Sc.cross {D : Int} {B : Nat} {q : Rat} (h : Sc D B q) : ∃ n : Int, q.num * D = n * q.den ∧ n.natAbs ≤ B := by
  obtain ⟨n, e, b⟩ := h
  refine ⟨n, ?_, b⟩
  have a := q_eq q
  have : ((q.num * D : Int) : Rat) = ((n * q.den : Int) : Rat) := by
    push_cast
    push_cast at a
    grind
  exact_mod_cast this
theorem Sc.den {D : Int} {B : Nat} {q : Rat} (h : Sc D B q) : (q.den : Int) ∣ D := by
  obtain ⟨n, e, _⟩ := h.cross
  have d : q.den ∣ q.num.natAbs * D.natAbs := by
    have e2 := congrArg Int.natAbs e
    rw [Int.natAbs_mul, Int.natAbs_mul, Int.natAbs_natCast] at e2
    exact ⟨n.natAbs, by rw [e2, Nat.mul_comm]⟩
  have g : Nat.Coprime q.den q.num.natAbs := Nat.Coprime.symm q.reduced
  have := g.dvd_of_dvd_mul_left d
  exact Int.dvd_natAbs.mp (by exact_mod_cast this)
theorem Sc.num {D : Int} {B : Nat} {q : Rat} (h : Sc D B q) (hD : D ≠ 0) : q.num.natAbs ≤ B := by
  have dv := h.den
  obtain ⟨n, e, b⟩ := h.cross
  have l : q.den ≤ D.natAbs := by
    have : (q.den : Int).natAbs ∣ D.natAbs := Int.natAbs_dvd_natAbs.mpr dv
    rw [Int.natAbs_natCast] at this
    exact Nat.le_of_dvd (by omega) this
  have e2 := congrArg Int.natAbs e
  rw [Int.natAbs_mul, Int.natAbs_mul, Int.natAbs_natCast] at e2
  have h1 : q.num.natAbs * D.natAbs ≤ n.natAbs * D.natAbs := by
    rw [e2]
    exact Nat.mul_le_mul_left _ l
  exact Nat.le_trans (Nat.le_of_mul_le_mul_right h1 (by omega)) b
theorem Sc.mono {D : Int} {B C : Nat} {q : Rat} (h : Sc D B q) (l : B ≤ C) : Sc D C q := by
  obtain ⟨n, e, b⟩ := h
  exact ⟨n, e, by omega⟩
theorem Sc.scale {D k : Int} {B : Nat} {q : Rat} (h : Sc D B q) : Sc (D * k) (B * k.natAbs) q := by
  obtain ⟨n, e, b⟩ := h
  refine ⟨n * k, ?_, ?_⟩
  · push_cast
    grind
  · rw [Int.natAbs_mul]
    exact Nat.mul_le_mul_right _ b
theorem Sc.add {D : Int} {B C : Nat} {q r : Rat} (h : Sc D B q) (g : Sc D C r) : Sc D (B + C) (q + r) := by
  obtain ⟨n, e, b⟩ := h
  obtain ⟨m, f, c⟩ := g
  refine ⟨n + m, ?_, by omega⟩
  push_cast
  grind
theorem Sc.mul {D E : Int} {B C : Nat} {q r : Rat} (h : Sc D B q) (g : Sc E C r) : Sc (D * E) (B * C) (q * r) := by
  obtain ⟨n, e, b⟩ := h
  obtain ⟨m, f, c⟩ := g
  refine ⟨n * m, ?_, by rw [Int.natAbs_mul]; exact Nat.mul_le_mul b c⟩
  push_cast
  grind
theorem Sc.zero {D : Int} {B : Nat} : Sc D B 0 := ⟨0, by push_cast; grind, Nat.zero_le _⟩
/-- the step of a response, with whole numbers -/
theorem horner {D β0 : Int} {B C : Nat} (hB : β0.natAbs ≤ B) (hC : 6 * B ≤ C) : ∀ (bs hs : List Rat) (k : Nat), (∀ b ∈ bs, Sc D B b) → (∀ i q, hs[i]? = some q → i < k ∧ Sc (β0 ^ (k - i)) (C ^ (k - i)) q) →
    ∃ S : Int, dotR bs hs * (D : Rat) * ((β0 ^ k : Int) : Rat) = (S : Rat) ∧ 5 * S.natAbs ≤ C ^ (k + 1)
  | [], hs, k, _, _ => ⟨0, by show (0 : Rat) * _ * _ = _; push_cast; grind, by simp⟩
  | b :: bs, [], k, _, _ => ⟨0, by show (0 : Rat) * _ * _ = _; push_cast; grind, by simp⟩
  | b :: bs, h :: hs, k, h1, h2 => by
    obtain ⟨k0, m, em, bm⟩ := h2 0 h rfl
    obtain ⟨j, rfl⟩ : ∃ j, k = j + 1 := ⟨k - 1, by omega⟩
    obtain ⟨S, eS, bS⟩ := horner hB hC bs hs j (fun x hx => h1 x (List.mem_cons_of_mem _ hx)) fun i q hq => by
      obtain ⟨l1, l2⟩ := h2 (i + 1) q hq
      rw [show j + 1 - (i + 1) = j - i by omega] at l2
      exact ⟨by omega, l2⟩
    obtain ⟨n, en, bn⟩ := h1 b List.mem_cons_self
    refine ⟨n * m + β0 * S, ?_, ?_⟩
    · show (b * h + dotR bs hs) * (D : Rat) * ((β0 ^ (j + 1) : Int) : Rat) = _
      rw [Nat.sub_zero] at em
      have p : ((β0 ^ (j + 1) : Int) : Rat) = (β0 : Rat) * ((β0 ^ j : Int) : Rat) := by
        rw [Int.pow_succ]
        push_cast
        grind
      push_cast at *
      grind
    · rw [Nat.sub_zero] at bm
      have t1 : (n * m).natAbs ≤ B * C ^ (j + 1) := by
        rw [Int.natAbs_mul]
        exact Nat.mul_le_mul bn bm
      have t2 : (β0 * S).natAbs ≤ B * S.natAbs := by
        rw [Int.natAbs_mul]
        exact Nat.mul_le_mul_right _ hB
      have t3 := Int.natAbs_add_le (n * m) (β0 * S)
      have t4 : 5 * (B * S.natAbs) ≤ B * C ^ (j + 1) := by
        rw [show 5 * (B * S.natAbs) = B * (5 * S.natAbs) by rw [← Nat.mul_assoc, Nat.mul_comm 5 B, Nat.mul_assoc]]
        exact Nat.mul_le_mul_left _ bS
      have t5 : 6 * (B * C ^ (j + 1)) ≤ C ^ (j + 1 + 1) := by
        rw [← Nat.mul_assoc, Nat.pow_succ C (j + 1), Nat.mul_comm (C ^ (j + 1)) C]
        exact Nat.mul_le_mul_right _ hC
      omega
theorem nxt_sc {D β0 : Int} {B C : Nat} {t b row : List Rat} (hD : D ≠ 0) (h0 : fn b 0 * (D : Rat) = (β0 : Rat)) (hn : β0 ≠ 0) (hB : β0.natAbs ≤ B) (hC : 6 * B ≤ C) (hb : ∀ x ∈ b, Sc D B x) (ht : ∀ i, Sc D B (fn t i))
    (hr : ∀ i q, row[i]? = some q → Sc (β0 ^ (i + 1)) (C ^ (i + 1)) q) : Sc (β0 ^ (row.length + 1)) (C ^ (row.length + 1)) (nxt t b row) := by
  obtain ⟨S, eS, bS⟩ := horner hB hC b.tail row.reverse row.length (fun x hx => hb x (List.mem_of_mem_tail hx)) fun i q hq => by
    have li : i < row.length := by
      have := (List.getElem?_eq_some_iff.mp hq).1
      rw [List.length_reverse] at this
      exact this
    rw [List.getElem?_reverse li] at hq
    have := hr _ q hq
    rw [show row.length - 1 - i + 1 = row.length - i by omega] at this
    exact ⟨li, this⟩
  obtain ⟨τ, eτ, bτ⟩ := ht row.length
  refine ⟨τ * β0 ^ row.length - S, ?_, ?_⟩
  · unfold nxt
    have b0 : fn b 0 ≠ 0 := fun z => by
      rw [z] at h0
      have := cast_ne hn
      grind
    have p : ((β0 ^ (row.length + 1) : Int) : Rat) = (β0 : Rat) * ((β0 ^ row.length : Int) : Rat) := by
      rw [Int.pow_succ]
      push_cast
      grind
    rw [p]
    push_cast at *
    grind
  · have t1 : (τ * β0 ^ row.length).natAbs ≤ B * B ^ row.length := by
      rw [Int.natAbs_mul, Int.natAbs_pow]
      exact Nat.mul_le_mul bτ (Nat.pow_le_pow_left hB _)
    have t2 : 6 * (B * B ^ row.length) ≤ C ^ (row.length + 1) := by
      rw [← Nat.mul_assoc, Nat.pow_succ, Nat.mul_comm (C ^ row.length) C]
      exact Nat.mul_le_mul hC (Nat.pow_le_pow_left (by omega) _)
    have t3 := Int.natAbs_sub_le (τ * β0 ^ row.length) S
    omega
theorem quo_sc {D β0 : Int} {B C : Nat} {t b : List Rat} (hD : D ≠ 0) (h0 : fn b 0 * (D : Rat) = (β0 : Rat)) (hn : β0 ≠ 0) (hB : β0.natAbs ≤ B) (hC : 6 * B ≤ C) (hb : ∀ x ∈ b, Sc D B x) (ht : ∀ i, Sc D B (fn t i)) :
    ∀ n i q, (quo t b n)[i]? = some q → Sc (β0 ^ (i + 1)) (C ^ (i + 1)) q
  | 0, i, q, h => by
    have : ([] : List Rat)[i]? = some q := h
    cases this
  | n + 1, i, q, h => by
    have h' : (quo t b n ++ [nxt t b (quo t b n)])[i]? = some q := h
    by_cases c : i < n
    · rw [List.getElem?_append_left (by rw [quo_len]; exact c)] at h'
      exact quo_sc hD h0 hn hB hC hb ht n i q h'
    · have li := (List.getElem?_eq_some_iff.mp h').1
      rw [List.length_append, quo_len] at li
      have e : i = n := by
        have : i < n + 1 := li
        omega
      subst e
      rw [List.getElem?_append_right (by rw [quo_len]; exact Nat.le_refl _), quo_len, Nat.sub_self] at h'
      cases h'
      have := nxt_sc hD h0 hn hB hC hb ht (row := quo t b i) fun j r hr => quo_sc hD h0 hn hB hC hb ht i j r hr
      rw [quo_len] at this
      exact this
/-! ### one bottom for all -/
def lcmI (c b : Int) : Int := if c % b = 0 then c else c / gI c b * b
theorem gI_dl (c b : Int) : gI c b ∣ c := by
  unfold gI
  exact Int.gcd_dvd_left ..
theorem gI_dr (c b : Int) : gI c b ∣ b := by
  unfold gI
  exact Int.gcd_dvd_right ..
theorem lcmI_ok {c b : Int} (hc : 0 < c) (hb : 0 < b) : 0 < lcmI c b ∧ c ∣ lcmI c b ∧ b ∣ lcmI c b ∧ ∀ D, c ∣ D → b ∣ D → lcmI c b ∣ D := by
  unfold lcmI
  split
  · next h => exact ⟨hc, Int.dvd_refl c, Int.dvd_of_emod_eq_zero h, fun D h1 _ => h1⟩
  · have g0 := gI_pos (t := c) (b := b) (by omega)
    obtain ⟨x, hx⟩ := gI_dl c b
    obtain ⟨y, hy⟩ := gI_dr c b
    have cop : Nat.gcd x.natAbs y.natAbs = 1 := by
      have h := Int.gcd_mul_left (gI c b) x y
      rw [← hx, ← hy] at h
      have h2 : Int.gcd c b = (gI c b).natAbs := by
        unfold gI
        rw [Int.natAbs_natCast]
      rw [h2] at h
      have : (gI c b).natAbs * 1 = (gI c b).natAbs * Int.gcd x y := by
        rw [Nat.mul_one]
        exact h
      exact (Nat.eq_of_mul_eq_mul_left (by omega) this).symm
    generalize gI c b = g at *
    have ex : c / g = x := Int.ediv_eq_of_eq_mul_right (by omega) hx
    rw [ex]
    have x0 : 0 < x := by
      rcases Int.lt_trichotomy x 0 with z | z | z
      · have := Int.mul_neg_of_pos_of_neg g0 z
        omega
      · rw [z, Int.mul_zero] at hx
        omega
      · exact z
    refine ⟨Int.mul_pos x0 hb, ⟨y, ?_⟩, ⟨x, Int.mul_comm _ _⟩, fun D h1 h2 => ?_⟩
    · subst hx hy
      grind
    · obtain ⟨d1, e1⟩ := h1
      obtain ⟨d2, e2⟩ := h2
      have e3 : x * d1 = y * d2 := by
        have : g * (x * d1) = g * (y * d2) := by
          rw [← Int.mul_assoc, ← Int.mul_assoc, ← hx, ← hy, ← e1, ← e2]
        exact Int.eq_of_mul_eq_mul_left (by omega) this
      have yd : y.natAbs ∣ d1.natAbs := by
        have h1 : y.natAbs ∣ x.natAbs * d1.natAbs := by
          rw [← Int.natAbs_mul, e3, Int.natAbs_mul]
          exact ⟨_, rfl⟩
        have cp : Nat.Coprime y.natAbs x.natAbs := Nat.Coprime.symm cop
        exact cp.dvd_of_dvd_mul_left h1
      obtain ⟨k, hk⟩ := Int.natAbs_dvd_natAbs.mp yd
      refine ⟨k, ?_⟩
      subst hx hy hk
      grind
def com (bs : List Int) : Int := bs.foldl lcmI 1
theorem com_ok : ∀ (bs : List Int) (c : Int), 0 < c → (∀ b ∈ bs, 0 < b) → 0 < bs.foldl lcmI c ∧ c ∣ bs.foldl lcmI c ∧ (∀ b ∈ bs, b ∣ bs.foldl lcmI c) ∧ ∀ D, c ∣ D → (∀ b ∈ bs, b ∣ D) → bs.foldl lcmI c ∣ D
  | [], c, hc, _ => ⟨hc, Int.dvd_refl c, fun b h => absurd h List.not_mem_nil, fun D h _ => h⟩
  | b :: bs, c, hc, hb => by
    obtain ⟨a1, a2, a3, a4⟩ := lcmI_ok hc (hb b List.mem_cons_self)
    obtain ⟨i1, i2, i3, i4⟩ := com_ok bs (lcmI c b) a1 fun x hx => hb x (List.mem_cons_of_mem _ hx)
    rw [List.foldl_cons]
    refine ⟨i1, Int.dvd_trans a2 i2, fun x hx => ?_, fun D h1 h2 => i4 D (a4 D h1 (h2 b List.mem_cons_self)) fun x hx => h2 x (List.mem_cons_of_mem _ hx)⟩
    rcases List.mem_cons.mp hx with rfl | hx
    · exact Int.dvd_trans a3 i2
    · exact i3 x hx
/-- tops over one bottom -/
def tops (c : Int) (ps : List (Int × Int)) : List Int := ps.map fun p => p.1 * (c / p.2)
theorem clear_q (c : Int) (hc : c ≠ 0) : ∀ ps : List (Int × Int), (∀ p ∈ ps, 0 < p.2 ∧ p.2 ∣ c) → sumR (ps.map fun p => Rat.divInt p.1 p.2) * (c : Rat) = ((tops c ps).sum : Int)
  | [], _ => by
    show (0 : Rat) * _ = ((0 : Int) : Rat)
    push_cast
    grind
  | p :: ps, h => by
    have i := clear_q c hc ps fun x hx => h x (List.mem_cons_of_mem _ hx)
    obtain ⟨p0, k, hk⟩ := h p List.mem_cons_self
    have e : c / p.2 = k := Int.ediv_eq_of_eq_mul_right (by omega) hk
    show (Rat.divInt p.1 p.2 + sumR (ps.map fun p => Rat.divInt p.1 p.2)) * (c : Rat) = ((p.1 * (c / p.2) + (tops c ps).sum : Int) : Rat)
    rw [e]
    have d := div_q (t := p.1) (show p.2 ≠ 0 by omega)
    have hk2 : (c : Rat) = (p.2 : Rat) * (k : Rat) := by
      rw [hk]
      push_cast
      rfl
    push_cast
    grind
/-- the products that aren't 0 -/
def prods : List Rat → List Rat → List (Int × Int)
  | x :: xs, y :: ys => (if x.num ≠ 0 ∧ y.num ≠ 0 then [(x.num * y.num, (x.den * y.den : Int))] else []) ++ prods xs ys
  | _, _ => []
theorem prods_q : ∀ xs ys : List Rat, sumR ((prods xs ys).map fun p => Rat.divInt p.1 p.2) = dotR xs ys
  | [], _ => rfl
  | _ :: _, [] => rfl
  | x :: xs, y :: ys => by
    show sumR (((if x.num ≠ 0 ∧ y.num ≠ 0 then [(x.num * y.num, (x.den * y.den : Int))] else []) ++ prods xs ys).map fun p => Rat.divInt p.1 p.2) = x * y + dotR xs ys
    rw [List.map_append, sumR_append, prods_q xs ys]
    split
    · show Rat.divInt (x.num * y.num) (x.den * y.den) + 0 + _ = _
      rw [times_q]
      grind
    · next h =>
      have z : x * y = 0 := by
        by_cases c : x.num = 0
        · rw [num_eq c]
          grind
        · have : y.num = 0 := Classical.byContradiction fun w => h ⟨c, w⟩
          rw [num_eq this]
          grind
      rw [z]
      show (0 : Rat) + _ = _
      grind
theorem prods_mem : ∀ {xs ys : List Rat} {p : Int × Int}, p ∈ prods xs ys → ∃ x ∈ xs, ∃ y ∈ ys, p = (x.num * y.num, (x.den * y.den : Int))
  | [], _, p, h => absurd h List.not_mem_nil
  | _ :: _, [], p, h => absurd h List.not_mem_nil
  | x :: xs, y :: ys, p, h => by
    have h' : p ∈ (if x.num ≠ 0 ∧ y.num ≠ 0 then [(x.num * y.num, (x.den * y.den : Int))] else []) ++ prods xs ys := h
    rcases List.mem_append.mp h' with h | h
    · split at h
      · exact ⟨x, List.mem_cons_self, y, List.mem_cons_self, List.mem_singleton.mp h⟩
      · exact absurd h List.not_mem_nil
    · obtain ⟨a, h1, b, h2, e⟩ := prods_mem h
      exact ⟨a, List.mem_cons_of_mem _ h1, b, List.mem_cons_of_mem _ h2, e⟩
/-! ### lists of pairs and of fractions in the heap -/
inductive PrsAt (H : Hp) : List V → List (Int × Int) → Prop where
  | nil : PrsAt H [] []
  | cons {p : Addr} {t b : Int} {vs : List V} {ps : List (Int × Int)} (e : H p = some (.tup [.int t, .int b])) (r : PrsAt H vs ps) : PrsAt H (.ref p :: vs) ((t, b) :: ps)
def pr (q : Rat) : Int × Int := (q.num, (q.den : Int))
abbrev FrsAt (H : Hp) (vs : List V) (qs : List Rat) : Prop := PrsAt H vs (qs.map pr)
def Fr (H : Hp) (p : Addr) (q : Rat) : Prop := H p = some (.tup [.int q.num, .int (q.den : Int)])
def FrL (H : Hp) (a : Addr) (qs : List Rat) : Prop := ∃ vs, H a = some (.lst vs) ∧ FrsAt H vs qs
theorem PrsAt.same {H H' : Hp} {vs : List V} {ps : List (Int × Int)} (h : PrsAt H vs ps) (s : Same H H') : PrsAt H' vs ps := by
  induction h with
  | nil => exact .nil
  | cons e _ ih => exact .cons (s _ _ e) ih
theorem PrsAt.but {H H' : Hp} {a : Addr} {xs : List V} {vs : List V} {ps : List (Int × Int)} (h : PrsAt H vs ps) (s : SameBut a H H') (ha : H a = some (.lst xs)) : PrsAt H' vs ps := by
  induction h with
  | nil => exact .nil
  | cons e _ ih => exact .cons (s _ _ (ne_of e ha (fun z => nomatch z)) e) ih
theorem PrsAt.len {H : Hp} {vs : List V} {ps : List (Int × Int)} (h : PrsAt H vs ps) : vs.length = ps.length := by
  induction h with
  | nil => rfl
  | cons _ _ ih => rw [List.length_cons, List.length_cons, ih]
theorem PrsAt.get {H : Hp} {vs : List V} {ps : List (Int × Int)} (h : PrsAt H vs ps) : ∀ {i : Nat} {v : V}, vs[i]? = some v → ∃ p t b, v = .ref p ∧ ps[i]? = some (t, b) ∧ H p = some (.tup [.int t, .int b]) := by
  induction h with
  | nil => intro i v z; cases z
  | cons e _ ih =>
    intro i v z
    cases i with
    | zero =>
      cases z
      exact ⟨_, _, _, rfl, rfl, e⟩
    | succ i => exact ih z
theorem PrsAt.at {H : Hp} {vs : List V} {ps : List (Int × Int)} (h : PrsAt H vs ps) : ∀ {i : Nat} {x : Int × Int}, ps[i]? = some x → ∃ p, vs[i]? = some (.ref p) ∧ H p = some (.tup [.int x.1, .int x.2]) := by
  induction h with
  | nil => intro i v z; cases z
  | cons e _ ih =>
    intro i v z
    cases i with
    | zero =>
      cases z
      exact ⟨_, rfl, e⟩
    | succ i => exact ih z
theorem PrsAt.app {H : Hp} {vs ws : List V} {ps qs : List (Int × Int)} (h : PrsAt H vs ps) (g : PrsAt H ws qs) : PrsAt H (vs ++ ws) (ps ++ qs) := by
  induction h with
  | nil => exact g
  | cons e _ ih => exact .cons e ih
theorem PrsAt.drop {H : Hp} {vs : List V} {ps : List (Int × Int)} (h : PrsAt H vs ps) : ∀ n, PrsAt H (vs.drop n) (ps.drop n) := by
  induction h with
  | nil => intro n; rw [List.drop_nil, List.drop_nil]; exact .nil
  | cons e r ih =>
    intro n
    cases n with
    | zero => exact .cons e r
    | succ n => exact ih n
theorem PrsAt.take {H : Hp} {vs : List V} {ps : List (Int × Int)} (h : PrsAt H vs ps) : ∀ n, PrsAt H (vs.take n) (ps.take n) := by
  induction h with
  | nil => intro n; rw [List.take_nil, List.take_nil]; exact .nil
  | cons e r ih =>
    intro n
    cases n with
    | zero => exact .nil
    | succ n => exact .cons e (ih n)
theorem FrsAt.get {H : Hp} {vs : List V} {qs : List Rat} (h : FrsAt H vs qs) {i : Nat} {v : V} (e : vs[i]? = some v) : ∃ p q, v = .ref p ∧ qs[i]? = some q ∧ Fr H p q := by
  obtain ⟨p, t, b, e1, e2, e3⟩ := PrsAt.get h e
  rw [List.getElem?_map] at e2
  obtain ⟨q, hq, ee⟩ := Option.map_eq_some_iff.mp e2
  cases ee
  exact ⟨p, q, e1, hq, e3⟩
theorem FrsAt.at {H : Hp} {vs : List V} {qs : List Rat} (h : FrsAt H vs qs) {i : Nat} {q : Rat} (e : qs[i]? = some q) : ∃ p, vs[i]? = some (.ref p) ∧ Fr H p q := PrsAt.at h (x := pr q) (by rw [List.getElem?_map, e]; rfl)
theorem FrsAt.len {H : Hp} {vs : List V} {qs : List Rat} (h : FrsAt H vs qs) : vs.length = qs.length := by
  have := PrsAt.len h
  rw [List.length_map] at this
  exact this
theorem FrsAt.app {H : Hp} {vs ws : List V} {qs rs : List Rat} (h : FrsAt H vs qs) (g : FrsAt H ws rs) : FrsAt H (vs ++ ws) (qs ++ rs) := by
  show PrsAt H _ ((qs ++ rs).map pr)
  rw [List.map_append]
  exact PrsAt.app h g
theorem FrsAt.one {H : Hp} {p : Addr} {q : Rat} (h : Fr H p q) : FrsAt H [.ref p] [q] := .cons h .nil
theorem FrsAt.drop {H : Hp} {vs : List V} {qs : List Rat} (h : FrsAt H vs qs) (n : Nat) : FrsAt H (vs.drop n) (qs.drop n) := by
  show PrsAt H _ ((qs.drop n).map pr)
  rw [List.map_drop]
  exact PrsAt.drop h n
theorem FrsAt.take {H : Hp} {vs : List V} {qs : List Rat} (h : FrsAt H vs qs) (n : Nat) : FrsAt H (vs.take n) (qs.take n) := by
  show PrsAt H _ ((qs.take n).map pr)
  rw [List.map_take]
  exact PrsAt.take h n
theorem FrL.same {H H' : Hp} {a : Addr} {qs : List Rat} (h : FrL H a qs) (s : Same H H') : FrL H' a qs := by
  obtain ⟨vs, e, r⟩ := h
  exact ⟨vs, s _ _ e, PrsAt.same r s⟩
theorem Fr.same {H H' : Hp} {p : Addr} {q : Rat} (h : Fr H p q) (s : Same H H') : Fr H' p q := s _ _ h
theorem Fr.low {H : Hp} {p : Addr} {t b : Int} {q : Rat} (hb : b ≠ 0) (e : Rat.divInt t b = q) (h : H p = some (.tup [.int (lowT t b), .int (lowB t b)])) : Fr H p q := by
  rw [lowT_num hb, lowB_den hb, e] at h
  exact h
/-- as data -/
def frD (q : Rat) : PyData := .tuple [.int q.num, .int (q.den : Int)]
theorem Fr.dp {K : PySem.W.Frag} {H : Hp} {p : Addr} {q : Rat} (h : Fr H p q) : Dp K H (.ref p) (frD q) := .tup (SqT.of h) (.cons (.int _) (.cons (.int _) .nil))
theorem FrsAt.dp {K : PySem.W.Frag} {H : Hp} : ∀ {qs : List Rat} {vs : List V}, FrsAt H vs qs → DpAll K H vs (qs.map frD)
  | [], vs, h => by
    cases h
    exact .nil
  | q :: qs, vs, h => by
    cases h with
    | cons e r => exact .cons (Fr.dp e) (FrsAt.dp r)
theorem frD_eqv (q r : Rat) : PyData.eqv (frD q) (frD r) = decide (q = r) := by
  show PyData.eqv (.tuple [.int q.num, .int (q.den : Int)]) (.tuple [.int r.num, .int (r.den : Int)]) = _
  simp only [PyData.eqv, PyData.eqvAll, Bool.and_true]
  rw [Bool.eq_iff_iff]
  simp only [Bool.and_eq_true, beq_iff_eq, decide_eq_true_eq]
  constructor
  · intro ⟨h1, h2⟩
    exact Rat.ext h1 (by exact_mod_cast h2)
  · intro h
    rw [h]
    exact ⟨rfl, rfl⟩
theorem frDs_eqv : ∀ qs rs : List Rat, PyData.eqvAll (qs.map frD) (rs.map frD) = decide (qs = rs)
  | [], [] => by simp [PyData.eqvAll]
  | [], r :: rs => by simp [PyData.eqvAll]
  | q :: qs, [] => by simp [PyData.eqvAll]
  | q :: qs, r :: rs => by
    rw [List.map_cons, List.map_cons, PyData.eqvAll, frD_eqv, frDs_eqv qs rs, Bool.eq_iff_iff]
    simp
theorem frL_eqv (qs rs : List Rat) : PyData.eqv (.list (qs.map frD)) (.list (rs.map frD)) = decide (qs = rs) := by
  rw [← frDs_eqv]
  simp only [PyData.eqv]
theorem frDs_lay : ∀ qs : List Rat, PyData.canLayAll0 (qs.map frD) = true
  | [] => rfl
  | q :: qs => by
    rw [List.map_cons, PyData.canLayAll0, frDs_lay qs, Bool.and_true]
    rfl
theorem frDs_deep : ∀ qs : List Rat, PyData.depthAll (qs.map frD) ≤ 3
  | [] => by simp [PyData.depthAll]
  | q :: qs => by
    have := frDs_deep qs
    simp only [List.map_cons, PyData.depthAll, frD, PyData.depth]
    omega
theorem frD_shaped (q : Rat) : SeqAt.shaped (frD q) = true := rfl
theorem frL_shaped (qs : List Rat) : SeqAt.shaped (.list (qs.map frD)) = true := by
  have h1 := frDs_deep qs
  have h2 : PyData.depth (.list (qs.map frD)) ≤ 64 := by simp only [PyData.depth]; omega
  show (PyData.canLay0 (.list (qs.map frD)) && decide (PyData.depth (.list (qs.map frD)) ≤ 64)) = true
  rw [Bool.and_eq_true]
  exact ⟨by simp only [PyData.canLay0]; exact frDs_lay qs, decide_eq_true h2⟩

end E1

namespace E1
open PySem PySem.Spec PyProof.Rows L2

theorem rep_all (n : Nat) : (List.replicate n true).all id = true := by
  rw [List.all_eq_true]
  intro x h
  exact (List.mem_replicate.mp h).2
theorem PrL_get {H : Hp} {vs : List V} {ps : List (Int × Int)} (h : PrsAt H vs ps) {i : Nat} {v : V} (e : vs[i]? = some v) : ∃ p t b, v = .ref p ∧ ps[i]? = some (t, b) ∧ (t, b) ∈ ps ∧ H p = some (.tup [.int t, .int b]) := by
  obtain ⟨p, t, b, e1, e2, e3⟩ := h.get e
  exact ⟨p, t, b, e1, e2, List.mem_of_getElem? e2, e3⟩
/-- pairs whose bottoms are above 0 and divide D -/
def Btm (D : Int) (ps : List (Int × Int)) : Prop := D ≠ 0 ∧ D.natAbs < 2 ^ 2000 ∧ ∀ p ∈ ps, 0 < p.2 ∧ p.2 ∣ D ∧ p.1.natAbs < 2 ^ 3000
theorem Btm.lt {D : Int} {ps : List (Int × Int)} (h : Btm D ps) {b : Int} (hb : 0 < b) (d : b ∣ D) : b.natAbs < 2 ^ 2000 := by
  have : b.natAbs ∣ D.natAbs := Int.natAbs_dvd_natAbs.mpr d
  have := Nat.le_of_dvd (by have := h.1; omega) this
  exact Nat.lt_of_le_of_lt this h.2.1
theorem Btm.com {D : Int} {ps : List (Int × Int)} (h : Btm D ps) : 0 < com (ps.map (·.2)) ∧ com (ps.map (·.2)) ∣ D ∧ ∀ p ∈ ps, p.2 ∣ com (ps.map (·.2)) := by
  have hp : ∀ b ∈ ps.map (·.2), 0 < b ∧ b ∣ D := fun b hb => by
    obtain ⟨p, h1, rfl⟩ := List.mem_map.mp hb
    exact ⟨(h.2.2 p h1).1, (h.2.2 p h1).2.1⟩
  obtain ⟨c1, _, c3, c4⟩ := com_ok (ps.map (·.2)) 1 (by decide) fun b hb => (hp b hb).1
  exact ⟨c1, c4 D (Int.one_dvd D) fun b hb => (hp b hb).2, fun p hp' => c3 _ (List.mem_map.mpr ⟨p, hp', rfl⟩)⟩
theorem Btm.take {D : Int} {ps : List (Int × Int)} (h : Btm D ps) (n : Nat) : Btm D (ps.take n) := ⟨h.1, h.2.1, fun p hp => h.2.2 p (List.mem_of_mem_take hp)⟩
def spIsFrs : Sp := fun vs H Q _ => ∃ (a : Addr) (qs : List Rat), vs = [.ref a] ∧ FrL H a qs ∧ qs.length ≤ 1000 ∧ ∀ H', Same H H' → Q (.bl true) H'
def spCom : Sp := fun vs H Q _ => ∃ (a : Addr) (ws : List V) (ps : List (Int × Int)) (D : Int), vs = [.ref a] ∧ H a = some (.lst ws) ∧ PrsAt H ws ps ∧ Btm D ps ∧ Q (.int (com (ps.map (·.2)))) H
def spCleared : Sp := fun vs H Q _ => ∃ (a : Addr) (ws : List V) (ps : List (Int × Int)) (D : Int), vs = [.ref a] ∧ H a = some (.lst ws) ∧ PrsAt H ws ps ∧ Btm D ps ∧ ps.length ≤ 1000 ∧
  ∀ T l H', Same H H' → H' T = some (.tup [.ref l, .int (com (ps.map (·.2)))]) → H' l = some (.lst ((tops (com (ps.map (·.2))) ps).map V.int)) → Q (.ref T) H'
/-- fractions of a bottom and a size -/
def Bnd (D : Int) (B : Nat) (qs : List Rat) : Prop := D ≠ 0 ∧ D.natAbs < 2 ^ 1000 ∧ B < 2 ^ 1000 ∧ ∀ q ∈ qs, Sc D B q
def spSop : Sp := fun vs H Q _ => ∃ (a c : Addr) (xs ys : List Rat) (D E : Int) (B C : Nat), vs = [.ref a, .ref c] ∧ FrL H a xs ∧ FrL H c ys ∧ Bnd D B xs ∧ Bnd E C ys ∧ xs.length ≤ 1000 ∧ ∀ p H', H p = none → Same H H' → Fr H' p (dotR xs ys) → Q (.ref p) H'
theorem prods_snoc : ∀ (xs ys : List Rat) (x y : Rat), xs.length = ys.length → prods (xs ++ [x]) (ys ++ [y]) = prods xs ys ++ (if x.num ≠ 0 ∧ y.num ≠ 0 then [(x.num * y.num, (x.den * y.den : Int))] else [])
  | [], [], x, y, _ => by
    show (if x.num ≠ 0 ∧ y.num ≠ 0 then [(x.num * y.num, (x.den * y.den : Int))] else []) ++ [] = [] ++ _
    rw [List.append_nil, List.nil_append]
  | a :: xs, b :: ys, x, y, h => by
    show (if a.num ≠ 0 ∧ b.num ≠ 0 then _ else []) ++ prods (xs ++ [x]) (ys ++ [y]) = _
    rw [prods_snoc xs ys x y (Nat.succ.inj h), ← List.append_assoc]
    rfl
theorem dot_take : ∀ (xs ys : List Rat), dotR (xs.take (min xs.length ys.length)) (ys.take (min xs.length ys.length)) = dotR xs ys
  | [], ys => by
    cases ys <;> rfl
  | x :: xs, [] => rfl
  | x :: xs, y :: ys => by
    rw [List.length_cons, List.length_cons, Nat.succ_min_succ]
    show x * y + dotR (xs.take _) (ys.take _) = x * y + dotR xs ys
    rw [dot_take xs ys]
theorem Bnd.btm {D E : Int} {B C : Nat} {xs ys : List Rat} (h : Bnd D B xs) (g : Bnd E C ys) : Btm (D * E) (prods xs ys) := by
  refine ⟨Int.mul_ne_zero h.1 g.1, ?_, fun p hp => ?_⟩
  · rw [Int.natAbs_mul]
    have : D.natAbs * E.natAbs < 2 ^ 1000 * 2 ^ 1000 := Nat.mul_lt_mul'' h.2.1 g.2.1
    rw [← Nat.pow_add] at this
    exact this
  · obtain ⟨x, hx, y, hy, rfl⟩ := prods_mem hp
    have sx := h.2.2.2 x hx
    have sy := g.2.2.2 y hy
    refine ⟨Int.mul_pos (den_ge x) (den_ge y), Int.mul_dvd_mul sx.den sy.den, ?_⟩
    show (x.num * y.num).natAbs < 2 ^ 3000
    rw [Int.natAbs_mul]
    have : x.num.natAbs * y.num.natAbs < 2 ^ 1000 * 2 ^ 1000 := Nat.mul_lt_mul'' (Nat.lt_of_le_of_lt (sx.num h.1) h.2.2.1) (Nat.lt_of_le_of_lt (sy.num g.1) g.2.2.1)
    rw [← Nat.pow_add] at this
    exact up this (by decide)
theorem FrL.len {H : Hp} {a : Addr} {qs : List Rat} (h : FrL H a qs) : ∃ vs, H a = some (.lst vs) ∧ vs.length = qs.length ∧ FrsAt H vs qs := by
  obtain ⟨vs, e, r⟩ := h
  exact ⟨vs, e, FrsAt.len r, r⟩
section
variable {P : Program} {w : World} {K : PySem.W.Frag} {mg : Str → Option Value} {base : Heap}
theorem sc_is_fractions : FnScope ["thing", "one"] ["thing"] (defScope s_is_fractions) := ⟨rfl, rfl, rfl, by decide +kernel, rfl, by decide +kernel, by decide +kernel⟩
theorem ok_is_fractions {f : Addr} {fd : FuncData} (F : Fun K "is_fractions" "is_fractions" s_is_fractions f fd) (z : Zs mg) (c_is_fraction : Cal P w K mg base 2 "is_fraction" ["thing"] spIsFrac) : FnOk P w K mg base CX0 3 f fd ["thing"] spIsFrs := by
  refine F.ok sc_is_fractions (fun vs H Q E h => ?_) (fun cdv A outer s H vs Q E hr h => ?_)
  · obtain ⟨a, qs, rfl, _⟩ := h
    rfl
  · obtain ⟨a, qs, rfl, ⟨vs, ha, hq⟩, hl, q⟩ := h
    refine ⟨_, (pss_one (ps_ret (pe_and (pe_callB call_isi (by rfl) z.isinstance (by decide +kernel) (pa_cons (pv 0) (pa_cons (pe_bltn (v := .ty "list") (by rfl) z.list (by decide +kernel) rfl) pa_nil))) (pe_one (pe_callB (cr_all rfl) (by rfl) z.all (by decide +kernel) (pa_cons (pe_lc (own := [("one", 1)]) (g := gName 1) (tt := tYes) (te := (tCall spIsFrac [] E0 (tCons (tVar 1) tNil))) (by rfl) sc_is_fractions.nd (pi_list (pv 0)) (blkOk_by (own := [("one", 1)]) (N := ["thing", "one"]) (sc := defScope s_is_fractions) (by decide +kernel)) (fun _ _ _ _ _ => by exact (pg_name (i := 1) sc_is_fractions.nd rfl (.inl rfl))) (fun _ _ _ _ _ => by exact pts_nil) (fun _ _ _ _ _ => by exact (pe_cal c_is_fraction hr (pa_cons (pv 1) pa_nil)))) pa_nil)))))), ?_⟩
    have hlen := FrsAt.len hq
    refine ⟨_, rfl, _, .ty "list", _, _, true, rfl, .ty _, .base (.lst ha), kit_ty (by decide +kernel), _, rfl, iteT ⟨_, rfl, a, rfl, ⟨_, SqL.of ha⟩, fun D hD => lc_list (K := K) (a := a) (xs := vs) (fun i H' => Same H H' ∧ H' D = some (.lst (List.replicate i (V.bl true)))) ⟨same_new hD, upd_same⟩ (fun i H' _ hP => SqL.of (hP.1 _ _ ha)) (fun i x H' hx hP => ?_) (fun H' hP => ?_)⟩⟩
    · obtain ⟨s1, hacc⟩ := hP
      obtain ⟨p, r, rfl, hr', hp⟩ := FrsAt.get hq hx
      have hi := (List.getElem?_eq_some_iff.mp hx).1
      have d0 := den_ge r
      refine ⟨rfl, _, rfl, p, r.num, r.den, rfl, s1 _ _ hp, by omega, ?_⟩
      rw [q_gcd, decide_eq_true rfl]
      refine ⟨_, hacc, ?_, fun b o e => ?_, ?_⟩
      · rw [List.length_replicate]
        exact small1000 (by omega)
      · rw [upd_ne (ne_of_none e hD)]
        exact s1 _ _ e
      · rw [upd_same, List.replicate_succ']
    · obtain ⟨s1, hacc⟩ := hP
      refine ⟨D, List.replicate _ true, rfl, SqL.of (by rw [List.map_replicate]; exact hacc), ?_⟩
      rw [rep_all]
      exact q _ s1
theorem sc_common_bottom : FnScope ["pairs", "common", "pair"] ["pairs"] (defScope s_common_bottom) := ⟨rfl, rfl, rfl, by decide +kernel, rfl, by decide +kernel, by decide +kernel⟩
theorem ok_common_bottom {f : Addr} {fd : FuncData} (F : Fun K "common_bottom" "common_bottom" s_common_bottom f fd) (z : Zs mg) (c_shared_divisor : Cal P w K mg base 1 "shared_divisor" ["top", "bottom"] spShared) : FnOk P w K mg base CX0 2 f fd ["pairs"] spCom := by
  refine F.ok sc_common_bottom (fun vs H Q E h => ?_) (fun cdv A outer s H vs Q E hr h => ?_)
  · obtain ⟨a, ws, ps, D, rfl, _⟩ := h
    rfl
  · obtain ⟨a, ws, ps, D, rfl, ha, hp0, hB, q⟩ := h
    refine ⟨_, (pss_cons (ps_set (i := 1) sc_common_bottom.nd rfl (.inl rfl) pe_int)
      (pss_cons (ps_for PassesOwn.never rfl (pi_list (pv 0)) (pg_name (i := 2) sc_common_bottom.nd rfl (.inl rfl)) (pss_one (ps_if (pt_truth (pe_op op_mod (pv 1) (pe_ix ix_tup (pv 2) pe_int (fun _ _ => rfl))) (by intro _; rfl)) (pss_one (ps_set (i := 1) sc_common_bottom.nd rfl (.inl rfl) (pe_op op_mulW (pe_op op_fdivW (pv 1) (pe_cal c_shared_divisor hr (pa_cons (pv 1) (pa_cons (pe_ix ix_tup (pv 2) pe_int (fun _ _ => rfl)) pa_nil)))) (pe_ix ix_tup (pv 2) pe_int (fun _ _ => rfl))))) pss_nil)))
      (pss_one (ps_ret (pv 1))))), ?_⟩
    have hlen := hp0.len
    refine ⟨_, rfl, a, rfl, ⟨_, SqL.of ha⟩, for_list (K := K) (a := a) (xs := ws) (fun i σ H' => H' = H ∧ ∃ y : Option V, σ = [some (.ref a), some (.int (com ((ps.take i).map (·.2)))), y]) ⟨rfl, none, rfl⟩ (fun i σ H' _ hP => hP.1 ▸ SqL.of ha) (fun i x σ H' hx hP => ?_) (fun σ H' hP => ?_)⟩
    · obtain ⟨rfl, y, rfl⟩ := hP
      obtain ⟨p, t, b, rfl, hi, hm, hp⟩ := PrL_get hp0 hx
      obtain ⟨b0, bD, _⟩ := hB.2.2 _ hm
      obtain ⟨c0, cD, _⟩ := (hB.take i).com
      have b1 := hB.lt b0 bD
      have c1 := hB.lt c0 cD
      have e : com ((ps.take (i + 1)).map (·.2)) = lcmI (com ((ps.take i).map (·.2))) b := by
        rw [List.take_succ, hi, Option.toList_some, List.map_append]
        unfold com
        rw [List.foldl_append]
        rfl
      generalize hc : com ((ps.take i).map (·.2)) = c at *
      refine ⟨_, rfl, _, rfl, p, _, 1, .int b, rfl, rfl, SqT.of hp, a1, _, _, rfl, rfl, (by show 0 < b; exact b0), _, rfl, ?_⟩
      by_cases c2 : c % b = 0
      · rw [c2]
        refine iteF ⟨rfl, some (.ref p), ?_⟩
        rw [e]
        unfold lcmI
        rw [if_pos c2]
        rfl
      · have ne : (c % b != 0) = true := by
          rw [bne_iff_ne]
          exact c2
        rw [ne]
        have g0 := gI_pos (t := c) (b := b) (by omega)
        have g1 : (gI c b).natAbs < 2 ^ 2000 := Nat.lt_of_le_of_lt (gI_le (by omega)) b1
        have q1 : (c / gI c b).natAbs < 2 ^ 2000 := by
          have h1 : 0 ≤ c / gI c b := Int.ediv_nonneg (by omega) (by omega)
          have h2 : c / gI c b ≤ c := Int.ediv_le_self _ (by omega)
          omega
        refine iteT ⟨_, rfl, _, rfl, _, rfl, p, _, 1, .int b, rfl, rfl, SqT.of hp, a1, c, b, rfl, by omega, _, _, rfl, rfl, wide_div g0 g1 (by decide) (by decide), _, rfl, p, _, 1, .int b, rfl, rfl, SqT.of hp, a1, _, _, rfl, rfl, wide_mul q1 b1 (by decide) (by decide) (by decide), rfl, some (.ref p), ?_⟩
        rw [e]
        unfold lcmI
        rw [if_neg c2]
        rfl
    · obtain ⟨rfl, y, rfl⟩ := hP
      rw [hlen, List.take_length]
      exact ⟨_, rfl, q⟩
theorem sc_cleared : FnScope ["pairs", "common", "top", "bottom"] ["pairs"] (defScope s_cleared) := ⟨rfl, rfl, rfl, by decide +kernel, rfl, by decide +kernel, by decide +kernel⟩
theorem ok_cleared {f : Addr} {fd : FuncData} (F : Fun K "cleared" "cleared" s_cleared f fd) (c_common_bottom : Cal P w K mg base 2 "common_bottom" ["pairs"] spCom) : FnOk P w K mg base CX0 3 f fd ["pairs"] spCleared := by
  refine F.ok sc_cleared (fun vs H Q E h => ?_) (fun cdv A outer s H vs Q E hr h => ?_)
  · obtain ⟨a, ws, ps, D, rfl, _⟩ := h
    rfl
  · obtain ⟨a, ws, ps, D, rfl, ha, hp0, hB, hl, q⟩ := h
    refine ⟨_, (pss_cons (ps_set (i := 1) sc_cleared.nd rfl (.inr rfl) (pe_cal c_common_bottom hr (pa_cons (pv 0) pa_nil)))
      (pss_one (ps_ret (pe_tup (pa_cons (pe_lc (own := [("top", 2), ("bottom", 3)]) (g := gTup K 2 (gCons (gName 2) (gCons (gName 3) gNil))) (tt := tYes) (te := (tOp (rI CMulW fun i j => V.int (i * j)) (tVar 2) (tOp (rI CDivW fun i j => V.int (i / j)) (tVar 1) (tVar 3)))) (by rfl) sc_cleared.nd (pi_list (pv 0)) (blkOk_by (own := [("top", 2), ("bottom", 3)]) (N := ["pairs", "common", "top", "bottom"]) (sc := defScope s_cleared) (by decide +kernel)) (fun _ _ _ _ _ => by exact (pg_tup (by rfl) (pgs_cons (pg_name (i := 2) sc_cleared.nd rfl (.inl rfl)) (pgs_cons (pg_name (i := 3) sc_cleared.nd rfl (.inl rfl)) pgs_nil)))) (fun _ _ _ _ _ => by exact pts_nil) (fun _ _ _ _ _ => by exact (pe_op op_mulW (pv 2) (pe_op op_fdivW (pv 1) (pv 3))))) (pa_cons (pv 1) pa_nil)))))), ?_⟩
    have hlen := hp0.len
    obtain ⟨c0, cD, cdv⟩ := hB.com
    have c1 := hB.lt c0 cD
    refine ⟨_, rfl, a, ws, ps, D, rfl, ha, hp0, hB, ?_⟩
    generalize com (ps.map (·.2)) = c at *
    refine ⟨_, rfl, a, rfl, ⟨_, SqL.of ha⟩, fun l hD => lc_list (K := K) (a := a) (xs := ws) (fun i H' => Same H H' ∧ H' l = some (.lst ((tops c (ps.take i)).map V.int))) ⟨same_new hD, upd_same⟩ (fun i H' _ hP => SqL.of (hP.1 _ _ ha)) (fun i x H' hx hP => ?_) (fun H' hP => ?_)⟩
    · obtain ⟨s1, hacc⟩ := hP
      obtain ⟨p, t, b, rfl, hi, hm, hp⟩ := PrL_get hp0 hx
      obtain ⟨b0, bD, t1⟩ := hB.2.2 _ hm
      have b1 := hB.lt b0 bD
      have li := (List.getElem?_eq_some_iff.mp hi).1
      have q1 : (c / b).natAbs < 2 ^ 2000 := by
        have h1 : 0 ≤ c / b := Int.ediv_nonneg (by omega) (by omega)
        have h2 : c / b ≤ c := Int.ediv_le_self _ (by omega)
        omega
      refine ⟨p, [.int t, .int b], rfl, SqT.of (s1 _ _ hp), rfl, _, _, rfl, _, _, rfl, rfl, rfl, ?_⟩
      refine ⟨_, rfl, _, rfl, _, rfl, _, _, rfl, rfl, wide_div b0 b1 (by decide) (by decide), _, _, rfl, rfl, wide_mul t1 q1 (by decide) (by decide) (by decide), _, hacc, ?_, fun b' o e => ?_, ?_⟩
      · unfold tops
        rw [List.length_map, List.length_map, List.length_take]
        exact small1000 (by omega)
      · rw [upd_ne (ne_of_none e hD)]
        exact s1 _ _ e
      · rw [upd_same, List.take_succ, hi, Option.toList_some]
        unfold tops
        rw [List.map_append, List.map_append]
        rfl
    · obtain ⟨s1, hacc⟩ := hP
      rw [hlen, List.take_length] at hacc
      refine ⟨_, rfl, (by show 2 ≤ sizeLine; decide), fun T hT => ?_⟩
      exact q T l _ (s1.trans (same_new hT)) upd_same (same_new hT _ _ hacc)
theorem sc_sum_of_products : FnScope ["xs", "ys", "products", "tops", "common", "x", "y"] ["xs", "ys"] (defScope s_sum_of_products) := ⟨rfl, rfl, rfl, by decide +kernel, rfl, by decide +kernel, by decide +kernel⟩
theorem ok_sum_of_products {f : Addr} {fd : FuncData} (F : Fun K "sum_of_products" "sum_of_products" s_sum_of_products f fd) (z : Zs mg) (c_cleared : Cal P w K mg base 3 "cleared" ["pairs"] spCleared) (c_lowest : Cal P w K mg base 2 "lowest" ["top", "bottom"] spLow) : FnOk P w K mg base CX0 4 f fd ["xs", "ys"] spSop := by
  refine F.ok sc_sum_of_products (fun vs H Q E h => ?_) (fun cdv A outer s H vs Q E hr h => ?_)
  · obtain ⟨a, c, xs, ys, D, E, B, C, rfl, _⟩ := h
    rfl
  · obtain ⟨a, c, xs, ys, D, E, B, C, rfl, ⟨vs, ha, hx0⟩, ⟨us, hc, hy0⟩, hB, hC, hl, q⟩ := h
    refine ⟨_, (pss_cons (ps_setLc (i := 2) (own := [("x", 5), ("y", 6)]) (g := gTup K 2 (gCons (gName 5) (gCons (gName 6) gNil))) (te := (tTup (tCons (tOp (rI CMulW fun i j => V.int (i * j)) (tOp (rIxT K) (tVar 5) (tC (.int 0))) (tOp (rIxT K) (tVar 6) (tC (.int 0)))) (tCons (tOp (rI CMulW fun i j => V.int (i * j)) (tOp (rIxT K) (tVar 5) (tC (.int 1))) (tOp (rIxT K) (tVar 6) (tC (.int 1)))) tNil)))) (tt := (tAnd (tTest (tOp rNe (tOp (rIxT K) (tVar 5) (tC (.int 0))) (tC (.int 0)))) (tTest (tOp rNe (tOp (rIxT K) (tVar 6) (tC (.int 0))) (tC (.int 0)))))) (by rfl) sc_sum_of_products.nd rfl rfl (sw_true rfl rfl rfl (by decide +kernel)) (RZ.pi_zipA (by rfl) z.zip (pa_cons (pv 0) (pa_cons (pv 1) pa_nil))) (blkOk_by (own := [("x", 5), ("y", 6)]) (N := ["xs", "ys", "products", "tops", "common", "x", "y"]) (sc := defScope s_sum_of_products) (by decide +kernel)) (fun _ _ _ _ _ => by exact (pg_tup (by rfl) (pgs_cons (pg_name (i := 5) sc_sum_of_products.nd rfl (.inl rfl)) (pgs_cons (pg_name (i := 6) sc_sum_of_products.nd rfl (.inl rfl)) pgs_nil)))) (fun _ _ _ _ _ => by exact (pts_one (PW.pt (pw_and (pt_cmpR op_ne (pe_ix ix_tup (pv 5) pe_int (fun _ _ => rfl)) pe_int (nomark _)) (pw_and1 (pt_cmpR op_ne (pe_ix ix_tup (pv 6) pe_int (fun _ _ => rfl)) pe_int (nomark _))))))) (fun _ _ _ _ _ => by exact (pe_tup (pa_cons (pe_op op_mulW (pe_ix ix_tup (pv 5) pe_int (fun _ _ => rfl)) (pe_ix ix_tup (pv 6) pe_int (fun _ _ => rfl))) (pa_cons (pe_op op_mulW (pe_ix ix_tup (pv 5) pe_int (fun _ _ => rfl)) (pe_ix ix_tup (pv 6) pe_int (fun _ _ => rfl))) pa_nil)))))
      (pss_cons (ps_asg (pe_cal c_cleared hr (pa_cons (pv 2) pa_nil)) (pg_tup (by rfl) (pgs_cons (pg_name (i := 3) sc_sum_of_products.nd rfl (.inl rfl)) (pgs_cons (pg_name (i := 4) sc_sum_of_products.nd rfl (.inl rfl)) pgs_nil))))
      (pss_one (ps_ret (pe_cal c_lowest hr (pa_cons (pe_callB (cr_sum rfl) (by rfl) z.sum (by decide +kernel) (pa_cons (pv 3) pa_nil)) (pa_cons (pv 4) pa_nil))))))), ?_⟩
    have lx := FrsAt.len hx0
    have ly := FrsAt.len hy0
    refine ⟨_, rfl, _, rfl, a, c, vs, us, rfl, .inl ⟨SqL.of ha, SqL.of hc, fun l hD => ?_⟩⟩
    refine lc_it (walk_zip (K := K) (a := a) (b := c) (xs := vs) (ys := us) rfl) (fun i H2 => Same H H2 ∧ ∃ ws, H2 l = some (.lst ws) ∧ PrsAt H2 ws (prods (xs.take i) (ys.take i)) ∧ ws.length ≤ i) ⟨same_new hD, [], upd_same, .nil, Nat.le_refl _⟩ (fun i H2 _ hP => ⟨SqL.of (hP.1 _ _ ha), SqL.of (hP.1 _ _ hc)⟩) (fun i x H2 H3 hi hP hY => ?_) (fun H2 hP => ?_)
    · obtain ⟨s1, ws, hw, hps, hwl⟩ := hP
      obtain ⟨Tp, u, v, rfl, nT, rfl, e1, e2⟩ := hY
      obtain ⟨p, qx, rfl, hqx, hp⟩ := FrsAt.get hx0 e1
      obtain ⟨r, qy, rfl, hqy, hr'⟩ := FrsAt.get hy0 e2
      have sN := same_new (o := .tup [.ref p, .ref r]) nT
      have S1 := s1.trans sN
      have hp3 := S1 _ _ hp
      have hr3 := S1 _ _ hr'
      have hw3 := sN _ _ hw
      have ps3 := hps.same sN
      have sx := hB.2.2.2 _ (List.mem_of_getElem? hqx)
      have sy := hC.2.2.2 _ (List.mem_of_getElem? hqy)
      have nx : qx.num.natAbs < 2 ^ 1000 := Nat.lt_of_le_of_lt (sx.num hB.1) hB.2.2.1
      have ny : qy.num.natAbs < 2 ^ 1000 := Nat.lt_of_le_of_lt (sy.num hC.1) hC.2.2.1
      have dn : ∀ {G : Int} {k : Rat}, G ≠ 0 → G.natAbs < 2 ^ 1000 → (k.den : Int) ∣ G → ((k.den : Int)).natAbs < 2 ^ 1000 := fun {G k} h0 h1 h2 => by
        have h3 : (k.den : Int).natAbs ∣ G.natAbs := Int.natAbs_dvd_natAbs.mpr h2
        exact Nat.lt_of_le_of_lt (Nat.le_of_dvd (by omega) h3) h1
      have dx := dn hB.1 hB.2.1 sx.den
      have dy := dn hC.1 hC.2.1 sy.den
      have li : i < min vs.length us.length := hi
      have tk : prods (xs.take (i + 1)) (ys.take (i + 1)) = prods (xs.take i) (ys.take i) ++ (if qx.num ≠ 0 ∧ qy.num ≠ 0 then [(qx.num * qy.num, (qx.den * qy.den : Int))] else []) := by
        rw [List.take_succ, List.take_succ, hqx, hqy, Option.toList_some, Option.toList_some]
        apply prods_snoc
        rw [List.length_take, List.length_take]
        omega
      refine ⟨Tp, [.ref p, .ref r], rfl, SqT.of upd_same, rfl, _, _, rfl, _, _, rfl, rfl, rfl, ?_⟩
      refine ⟨_, rfl, p, _, 0, .int qx.num, rfl, rfl, SqT.of hp3, a0, rfl, _, rfl, iteN (fun cx => ?_) (fun cx => ?_)⟩
      · refine ⟨_, rfl, r, _, 0, .int qy.num, rfl, rfl, SqT.of hr3, a0, rfl, _, rfl, iteN (fun cy => ?_) (fun cy => ?_)⟩
        · have n1 : qx.num ≠ 0 := fun z => cx (by rw [z])
          have n2 : qy.num ≠ 0 := fun z => cy (by rw [z])
          refine ⟨_, rfl, p, _, 0, .int qx.num, rfl, rfl, SqT.of hp3, a0, _, rfl, r, _, 0, .int qy.num, rfl, rfl, SqT.of hr3, a0, _, _, rfl, rfl, wide_mul nx ny (by decide) (by decide) (by decide), _, rfl, p, _, 1, .int qx.den, rfl, rfl, SqT.of hp3, a1, _, rfl, r, _, 1, .int qy.den, rfl, rfl, SqT.of hr3, a1, _, _, rfl, rfl, wide_mul dx dy (by decide) (by decide) (by decide), (by show 2 ≤ sizeLine; decide), fun t ht => ?_⟩
          have sT := same_new (o := .tup [.int (qx.num * qy.num), .int (qx.den * qy.den : Int)]) ht
          have nl : t ≠ l := fun e => by
            rw [e] at ht
            rw [hw3] at ht
            cases ht
          refine ⟨_, sT _ _ hw3, small1000 (by omega), fun b o e => ?_, ws ++ [.ref t], upd_same, ?_, by rw [List.length_append]; show ws.length + 1 ≤ i + 1; omega⟩
          · rw [upd_ne (ne_of_none e hD)]
            exact sT _ _ (S1 _ _ e)
          · rw [tk, if_pos ⟨n1, n2⟩]
            have A : PrsAt (upd (upd (upd H2 Tp (.tup [.ref p, .ref r])) t (.tup [.int (qx.num * qy.num), .int (qx.den * qy.den : Int)])) l (.lst (ws ++ [.ref t]))) ws (prods (xs.take i) (ys.take i)) := (ps3.same sT).but SameBut.upd (sT _ _ hw3)
            refine A.app (.cons ?_ .nil)
            rw [upd_ne nl]
            exact upd_same
        · refine ⟨S1, ws, hw3, ?_, by omega⟩
          have z : qy.num = 0 := V.int.inj cy
          rw [tk, if_neg (fun h => h.2 z), List.append_nil]
          exact ps3
      · refine ⟨S1, ws, hw3, ?_, by omega⟩
        have z : qx.num = 0 := V.int.inj cx
        rw [tk, if_neg (fun h => h.1 z), List.append_nil]
        exact ps3
    · obtain ⟨s1, ws, hw, hps, hwl⟩ := hP
      rw [lx, ly] at hps hwl
      have hB' : Bnd D B (xs.take (min xs.length ys.length)) := ⟨hB.1, hB.2.1, hB.2.2.1, fun x hx => hB.2.2.2 x (List.mem_of_mem_take hx)⟩
      have hC' : Bnd E C (ys.take (min xs.length ys.length)) := ⟨hC.1, hC.2.1, hC.2.2.1, fun x hx => hC.2.2.2 x (List.mem_of_mem_take hx)⟩
      have bt := hB'.btm hC'
      obtain ⟨c0, cD, cdv⟩ := bt.com
      have c1 := bt.lt c0 cD
      have pl := hps.len
      have val := prods_q (xs.take (min xs.length ys.length)) (ys.take (min xs.length ys.length))
      rw [dot_take] at val
      have cl := clear_q (com ((prods (xs.take (min xs.length ys.length)) (ys.take (min xs.length ys.length))).map (·.2))) (by omega) (prods (xs.take (min xs.length ys.length)) (ys.take (min xs.length ys.length))) fun p hp => ⟨(bt.2.2 p hp).1, cdv p hp⟩
      rw [val] at cl
      refine ⟨_, rfl, l, ws, _, D * E, rfl, hw, hps, bt, by omega, fun Tp L1 H3 s3 hT hL => ?_⟩
      refine ⟨Tp, _, rfl, SqT.of hT, rfl, _, _, rfl, _, _, rfl, rfl, ?_⟩
      refine ⟨_, rfl, L1, _, rfl, SqL.of hL, _, rfl, _, _, rfl, by omega, up c1 (by decide), fun p hp => ?_⟩
      have S3 := s1.trans s3
      exact q p _ (S3.free hp) (S3.trans (same_new hp)) (Fr.low (by omega) (div_is (by omega) cl) upd_same)
end
end E1

namespace E1
open PySem PySem.Spec PyProof.Rows L2

theorem fn_mem {qs : List Rat} {i : Nat} (h : i < qs.length) : fn qs i ∈ qs := by
  rw [fn_lt (List.getElem?_eq_getElem h)]
  exact List.getElem_mem h
theorem fn_sc {D : Int} {B : Nat} {qs : List Rat} (h : ∀ q ∈ qs, Sc D B q) (i : Nat) : Sc D B (fn qs i) := by
  by_cases c : i < qs.length
  · exact h _ (fn_mem c)
  · rw [fn_ge (by omega)]
    exact .zero
theorem FrsAt.fn {H : Hp} {vs : List V} {qs : List Rat} (h : FrsAt H vs qs) {i : Nat} (hi : i < qs.length) : ∃ p, vs[i]? = some (.ref p) ∧ Fr H p (E1.fn qs i) := by
  obtain ⟨p, h1, h2⟩ := FrsAt.at h (List.getElem?_eq_getElem hi)
  exact ⟨p, h1, by rw [fn_lt (List.getElem?_eq_getElem hi)]; exact h2⟩
def spIsBot : Sp := fun vs H Q _ => ∃ (a : Addr) (qs : List Rat), vs = [.ref a] ∧ FrL H a qs ∧ qs.length ≤ 1000 ∧ 0 < qs.length ∧ fn qs 0 ≠ 0 ∧ ∀ H', Same H H' → Q (.bl true) H'
def spChkS : Sp := fun vs H Q _ => ∃ (a : Addr) (qs : List Rat), vs = [.ref a] ∧ FrL H a qs ∧ qs.length ≤ 1000 ∧ ∀ H', Same H H' → Q .non H'
def spChkB : Sp := fun vs H Q _ => ∃ (a : Addr) (qs : List Rat), vs = [.ref a] ∧ FrL H a qs ∧ qs.length ≤ 1000 ∧ 0 < qs.length ∧ fn qs 0 ≠ 0 ∧ ∀ H', Same H H' → Q .non H'
def spPlaceOf (K : PySem.W.Frag) : Sp := fun vs H Q _ => ∃ (a : Addr) (qs : List Rat) (k : Nat), vs = [.ref a, .int k] ∧ FrL H a qs ∧ ∀ p, SqT K H p [.int (fn qs k).num, .int ((fn qs k).den : Int)] → Q (.ref p) H
def spPPlace : Sp := fun vs H Q _ => ∃ (a c : Addr) (xs ys : List Rat) (k : Nat) (D E : Int) (B C : Nat), vs = [.ref a, .ref c, .int k] ∧ FrL H a xs ∧ FrL H c ys ∧ Bnd D B xs ∧ Bnd E C ys ∧ xs.length ≤ 1000 ∧ ys.length ≤ 1000 ∧ k ≤ 1000 ∧ ∀ p H', H p = none → Same H H' → Fr H' p (cv (fn xs) (fn ys) k) → Q (.ref p) H'
theorem cut_nat {vs : List V} {f u : Nat} : cutV vs (some (f : Int)) (some (u : Int)) = (vs.drop (min f vs.length)).take (min u vs.length - min f vs.length) := by
  unfold cutV
  rw [HT.sIx_nat, HT.sIx_nat]
theorem place_cut (xs : List Rat) (f k : Nat) : (xs.drop (min f xs.length)).take (min (k + 1) xs.length - min f xs.length) = (List.range' f (min (k + 1) xs.length - f)).map (fn xs) := by
  by_cases c : f ≤ xs.length
  · rw [Nat.min_eq_left c]
    exact drop_range (by omega)
  · rw [Nat.min_eq_right (show xs.length ≤ f by omega), show min (k + 1) xs.length - xs.length = 0 by omega, show min (k + 1) xs.length - f = 0 by omega]
    rfl
theorem range_mem {f m : Nat} {g : Nat → Rat} {q : Rat} (h : q ∈ (List.range' f m).map g) : ∃ j, f ≤ j ∧ j < f + m ∧ q = g j := by
  obtain ⟨j, hj, rfl⟩ := List.mem_map.mp h
  rw [List.mem_range'_1] at hj
  exact ⟨j, hj.1, hj.2, rfl⟩
/-- the first place at which two rows part -/
def Fst (N : Nat) (e f : Nat → Rat) (v : V) : Prop := (∃ k : Nat, k < N ∧ e k ≠ f k ∧ (∀ i, i < k → e i = f i) ∧ v = .int k) ∨ ((∀ i, i < N → e i = f i) ∧ v = .non)
def spParted : Sp := fun vs H Q _ => ∃ (a b c d : Addr) (t u t' u' : List Rat) (D : Int) (B : Nat), vs = [.ref a, .ref b, .ref c, .ref d] ∧ FrL H a t ∧ FrL H b u ∧ FrL H c t' ∧ FrL H d u' ∧ Bnd D B t ∧ Bnd D B u ∧ Bnd D B t' ∧ Bnd D B u' ∧
  t.length ≤ 400 ∧ u.length ≤ 400 ∧ t'.length ≤ 400 ∧ u'.length ≤ 400 ∧ 0 < u.length ∧ 0 < u'.length ∧ fn u 0 ≠ 0 ∧ fn u' 0 ≠ 0 ∧ ∀ v H', Same H H' → Fst (max (t.length + u'.length) (t'.length + u.length)) (cv (fn t) (fn u')) (cv (fn t') (fn u)) v → Q v H'
section
variable {P : Program} {w : World} {K : PySem.W.Frag} {mg : Str → Option Value} {base : Heap}
theorem sc_is_bottom : FnScope ["thing"] ["thing"] (defScope s_is_bottom) := ⟨rfl, rfl, rfl, by decide +kernel, rfl, by decide +kernel, by decide +kernel⟩
theorem ok_is_bottom {f : Addr} {fd : FuncData} {AN : Addr} (gN : mg "NOUGHT" = some (.ref AN)) (tN : ∀ H, SqT K H AN [.int 0, .int 1]) (F : Fun K "is_bottom" "is_bottom" s_is_bottom f fd) (z : Zs mg) (c_is_fractions : Cal P w K mg base 3 "is_fractions" ["thing"] spIsFrs) : FnOk P w K mg base CX0 4 f fd ["thing"] spIsBot := by
  refine F.ok sc_is_bottom (fun vs H Q E h => ?_) (fun cdv A outer s H vs Q E hr h => ?_)
  · obtain ⟨a, qs, rfl, _⟩ := h
    rfl
  · obtain ⟨a, qs, rfl, hq, hl, h0, hn, q⟩ := h
    refine ⟨_, (pss_one (ps_ret (pe_and (pe_cal c_is_fractions hr (pa_cons (pv 0) pa_nil)) (pe_and (pe_cmpR op_gt (pe_callB call_len_seq (by rfl) z.len PySem.boot_len (pa_cons (pv 0) pa_nil)) pe_int (nomark _)) (pe_one (pe_cmpR (op_neD hr.units) (pe_ix ix_list (pv 0) pe_int (fun _ _ => rfl)) (pe_glob (v := .ref AN) (by rfl) gN rfl) (nomark _))))))), ?_⟩
    refine ⟨_, rfl, a, qs, rfl, hq, hl, fun H1 s1 => ⟨_, rfl, iteT ?_⟩⟩
    obtain ⟨vs, ha, hlen, hv⟩ := (hq.same s1).len
    obtain ⟨p, hp1, hp⟩ := FrsAt.fn hv h0
    refine ⟨_, rfl, a, _, rfl, .inl (SqL.of ha), _, _, rfl, rfl, _, rfl, ?_⟩
    rw [hlen]
    refine ite2 (fun _ => ?_) (fun c => absurd (decide_eq_true (show (qs.length : Int) > 0 by omega)) c)
    refine ⟨_, rfl, a, _, 0, .ref p, rfl, rfl, SqL.of ha, atI_nat (j := 0) hp1, frD (fn qs 0), frD 0, Fr.dp hp, .tup (tN _) (.cons (.int _) (.cons (.int _) .nil)), frD_shaped _, frD_shaped _, ?_⟩
    rw [frD_eqv, decide_eq_false hn]
    exact q _ s1
theorem sc_check_series : FnScope ["thing"] ["thing"] (defScope s_check_series) := ⟨rfl, rfl, rfl, by decide +kernel, rfl, by decide +kernel, by decide +kernel⟩
theorem ok_check_series {f : Addr} {fd : FuncData} (F : Fun K "check_series" "check_series" s_check_series f fd) (c_is_fractions : Cal P w K mg base 3 "is_fractions" ["thing"] spIsFrs) : FnOk P w K mg base CX0 4 f fd ["thing"] spChkS := by
  refine F.ok sc_check_series (fun vs H Q E h => ?_) (fun cdv A outer s H vs Q E hr h => ?_)
  · obtain ⟨a, qs, rfl, _⟩ := h
    rfl
  · obtain ⟨a, qs, rfl, hq, hl, q⟩ := h
    refine ⟨_, (pss_one (ps_if (pt_not (pt_val (pe_cal c_is_fractions hr (pa_cons (pv 0) pa_nil)))) (pss_one ps_never) pss_nil)), ?_⟩
    exact ⟨_, rfl, a, qs, rfl, hq, hl, fun H1 s1 => ⟨_, rfl, iteF (q _ s1)⟩⟩
theorem sc_check_bottom : FnScope ["thing"] ["thing"] (defScope s_check_bottom) := ⟨rfl, rfl, rfl, by decide +kernel, rfl, by decide +kernel, by decide +kernel⟩
theorem ok_check_bottom {f : Addr} {fd : FuncData} (F : Fun K "check_bottom" "check_bottom" s_check_bottom f fd) (c_is_bottom : Cal P w K mg base 4 "is_bottom" ["thing"] spIsBot) : FnOk P w K mg base CX0 5 f fd ["thing"] spChkB := by
  refine F.ok sc_check_bottom (fun vs H Q E h => ?_) (fun cdv A outer s H vs Q E hr h => ?_)
  · obtain ⟨a, qs, rfl, _⟩ := h
    rfl
  · obtain ⟨a, qs, rfl, hq, hl, h0, hn, q⟩ := h
    refine ⟨_, (pss_one (ps_if (pt_not (pt_val (pe_cal c_is_bottom hr (pa_cons (pv 0) pa_nil)))) (pss_one ps_never) pss_nil)), ?_⟩
    exact ⟨_, rfl, a, qs, rfl, hq, hl, h0, hn, fun H1 s1 => ⟨_, rfl, iteF (q _ s1)⟩⟩
theorem sc_place_of : FnScope ["series", "at"] ["series", "at"] (defScope s_place_of) := ⟨rfl, rfl, rfl, by decide +kernel, rfl, by decide +kernel, by decide +kernel⟩
theorem ok_place_of {f : Addr} {fd : FuncData} {k : Nat} {AN : Addr} (gN : mg "NOUGHT" = some (.ref AN)) (tN : ∀ H, SqT K H AN [.int 0, .int 1]) (F : Fun K "place_of" "place_of" s_place_of f fd) (z : Zs mg) : FnOk P w K mg base CX0 (k + 1) f fd ["series", "at"] (spPlaceOf K) := by
  refine F.ok sc_place_of (fun vs H Q E h => ?_) (fun cdv A outer s H vs Q E hr h => ?_)
  · obtain ⟨a, qs, k, rfl, _⟩ := h
    rfl
  · obtain ⟨a, qs, k, rfl, hq, q⟩ := h
    refine ⟨_, (pss_one (ps_ret (pe_ifExp (pt_cmpR op_lt (pv 1) (pe_callB call_len_seq (by rfl) z.len PySem.boot_len (pa_cons (pv 0) pa_nil)) (nomark _)) (pe_ix ix_list (pv 0) (pv 1) (fun _ _ => rfl)) (pe_glob (v := .ref AN) (by rfl) gN rfl)))), ?_⟩
    obtain ⟨vs, ha, hlen, hv⟩ := hq.len
    refine ⟨_, rfl, _, rfl, a, _, rfl, .inl (SqL.of ha), _, _, rfl, rfl, _, rfl, ?_⟩
    rw [hlen]
    refine ite2 (fun c => ?_) (fun c => ?_)
    · have hk : k < qs.length := by
        have := toB c
        omega
      obtain ⟨p, hp1, hp⟩ := FrsAt.fn hv hk
      exact ⟨_, rfl, _, rfl, a, _, _, .ref p, rfl, rfl, SqL.of ha, atI_nat hp1, q p (SqT.of hp)⟩
    · have hk : qs.length ≤ k := by
        have := toNB c
        omega
      have := q AN
      rw [fn_ge hk] at this
      exact this (tN _)
theorem sc_product_place : FnScope ["one", "other", "at", "first", "left", "right", "k"] ["one", "other", "at"] (defScope s_product_place) := ⟨rfl, rfl, rfl, by decide +kernel, rfl, by decide +kernel, by decide +kernel⟩
theorem ok_product_place {f : Addr} {fd : FuncData} (F : Fun K "product_place" "product_place" s_product_place f fd) (z : Zs mg) (c_sum_of_products : Cal P w K mg base 4 "sum_of_products" ["xs", "ys"] spSop) : FnOk P w K mg base CX0 5 f fd ["one", "other", "at"] spPPlace := by
  refine F.ok sc_product_place (fun vs H Q E h => ?_) (fun cdv A outer s H vs Q E hr h => ?_)
  · obtain ⟨a, c, xs, ys, k, D, E, B, C, rfl, _⟩ := h
    rfl
  · obtain ⟨a, c, xs, ys, k, D, E, B, C, rfl, hx, hy, hB, hC, lx, ly, lk, q⟩ := h
    refine ⟨_, (pss_cons (ps_set (i := 3) sc_product_place.nd rfl (.inl rfl) (pe_callB (call_max2 rfl) (by rfl) z.max (by decide +kernel) (pa_cons pe_int (pa_cons (pe_op op_add (pe_op op_sub (pv 2) (pe_callB call_len_seq (by rfl) z.len PySem.boot_len (pa_cons (pv 1) pa_nil))) pe_int) pa_nil))))
      (pss_cons (ps_set (i := 4) sc_product_place.nd rfl (.inl rfl) (pe_slice sl_list (pv 0) (po_some (pv 3)) (po_some (pe_op op_add (pv 2) pe_int))))
      (pss_cons (ps_setLc (i := 5) (own := [("k", 6)]) (g := gName 6) (tt := tYes) (te := (tOp (rIxL K) (tVar 1) (tOp (rI0 fun i j => V.int (i - j)) (tVar 2) (tVar 6)))) (by rfl) sc_product_place.nd rfl rfl (sw_true rfl rfl rfl (by decide +kernel)) (pi_range2 (by rfl) z.range (pa_cons (pv 3) (pa_cons (pe_op op_add (pv 3) (pe_callB call_len_seq (by rfl) z.len PySem.boot_len (pa_cons (pv 4) pa_nil))) pa_nil))) (blkOk_by (own := [("k", 6)]) (N := ["one", "other", "at", "first", "left", "right", "k"]) (sc := defScope s_product_place) (by decide +kernel)) (fun _ _ _ _ _ => by exact (pg_name (i := 6) sc_product_place.nd rfl (.inl rfl))) (fun _ _ _ _ _ => by exact pts_nil) (fun _ _ _ _ _ => by exact (pe_ix ix_list (pv 1) (pe_op op_sub (pv 2) (pv 6)) (fun _ _ => rfl))))
      (pss_one (ps_ret (pe_cal c_sum_of_products hr (pa_cons (pv 4) (pa_cons (pv 5) pa_nil)))))))), ?_⟩
    obtain ⟨vs, ha, hvl, hv⟩ := hx.len
    obtain ⟨us, hc, hul, hu⟩ := hy.len
    refine ⟨_, rfl, _, rfl, c, _, rfl, .inl (SqL.of hc), _, _, rfl, rfl, _, _, rfl, rfl, _, _, rfl, ?_⟩
    rw [hul]
    have ef : (if (k : Int) - (ys.length : Int) + 1 > 0 then (k : Int) - (ys.length : Int) + 1 else 0) = ((k + 1 - ys.length : Nat) : Int) := by
      split <;> omega
    rw [ef]
    have hf : k + 1 - ys.length ≤ k + 1 := by omega
    generalize hfe : k + 1 - ys.length = f0 at *
    refine ⟨_, rfl, _, rfl, _, rfl, _, rfl, _, _, rfl, rfl, _, rfl, a, _, rfl, SqL.of ha, fun p1 h1 => ?_⟩
    have ecut : cutV vs (some (f0 : Int)) (some ((k : Int) + 1)) = (vs.drop (min f0 vs.length)).take (min (k + 1) vs.length - min f0 vs.length) := cut_nat (u := k + 1)
    rw [ecut]
    have hL0 : FrsAt H ((vs.drop (min f0 vs.length)).take (min (k + 1) vs.length - min f0 vs.length)) ((List.range' f0 (min (k + 1) xs.length - f0)).map (fn xs)) := by
      rw [← place_cut, hvl]
      exact FrsAt.take (FrsAt.drop hv _) _
    have hll := FrsAt.len hL0
    generalize (vs.drop (min f0 vs.length)).take (min (k + 1) vs.length - min f0 vs.length) = ls at *
    generalize hm : min (k + 1) xs.length - f0 = m at *
    rw [List.length_map, List.length_range'] at hll
    have s1 := same_new (o := .lst ls) h1
    have hc1 := s1 _ _ hc
    have hu1 := PrsAt.same hu s1
    refine ⟨_, rfl, _, rfl, _, rfl, p1, _, rfl, .inl (SqL.of (upd_same (H := H) (a := p1) (o := .lst ls))), _, _, rfl, rfl, f0, f0 + ls.length, rfl, ⟨by omega, by omega, by omega, by omega⟩, fun l hD => ?_⟩
    rw [show (((f0 : Int) + (ls.length : Int)) - (f0 : Int)).toNat = m by omega]
    refine lc_range (lo := (f0 : Int)) (n := m) (fun i H' => Same (upd H p1 (.lst ls)) H' ∧ ∃ ws, H' l = some (.lst ws) ∧ FrsAt H' ws ((List.range' f0 i).map fun j => fn ys (k - j)) ∧ ws.length = i) ⟨same_new hD, [], upd_same, .nil, rfl⟩ (fun i H2 hi hP => ?_) (fun H2 hP => ?_)
    · obtain ⟨s2, ws, hw, hws, hwl⟩ := hP
      have ix : k - (f0 + i) < ys.length := by omega
      obtain ⟨p, hp1, hp⟩ := FrsAt.fn hu1 ix
      have ei : (k : Int) - ((f0 : Int) + (i : Int)) = ((k - (f0 + i) : Nat) : Int) := by omega
      refine ⟨rfl, _, rfl, _, rfl, _, rfl, _, _, rfl, rfl, c, _, _, .ref p, rfl, rfl, SqL.of (s2 _ _ hc1), (by rw [ei]; exact atI_nat hp1), ?_⟩
      refine ⟨_, hw, small1000 (by omega), fun b o e => ?_, ws ++ [.ref p], upd_same, ?_, by rw [List.length_append, hwl]; rfl⟩
      · rw [upd_ne (ne_of_none e hD)]
        exact s2 _ _ e
      · have A : FrsAt (upd H2 l (.lst (ws ++ [.ref p]))) ws ((List.range' f0 i).map fun j => fn ys (k - j)) := PrsAt.but hws SameBut.upd hw
        rw [List.range'_concat, List.map_append]
        refine FrsAt.app A (FrsAt.one ?_)
        show Fr _ p (fn ys (k - (f0 + 1 * i)))
        rw [Nat.one_mul]
        show (upd H2 l (.lst (ws ++ [.ref p]))) p = _
        rw [upd_ne (ne_of (s2 _ _ hp) hw (fun z => nomatch z))]
        exact s2 _ _ hp
    · obtain ⟨s2, ws, hw, hws, hwl⟩ := hP
      refine ⟨_, rfl, _, rfl, p1, l, _, _, D, E, B, C, rfl, ⟨ls, s2 _ _ upd_same, PrsAt.same hL0 (s1.trans s2)⟩, ⟨ws, hw, hws⟩, ⟨hB.1, hB.2.1, hB.2.2.1, fun q' hq' => ?_⟩, ⟨hC.1, hC.2.1, hC.2.2.1, fun q' hq' => ?_⟩, ?_, fun p H3 hp s3 hF => ?_⟩
      · obtain ⟨j, _, _, rfl⟩ := range_mem hq'
        exact fn_sc hB.2.2.2 j
      · obtain ⟨j, _, _, rfl⟩ := range_mem hq'
        exact fn_sc hC.2.2.2 _
      · rw [List.length_map, List.length_range']
        omega
      · have S3 := s1.trans s2
        rw [prog_place xs ys k hfe.symm hm.symm] at hF
        exact q p H3 (S3.free hp) (S3.trans s3) hF
end
end E1

namespace E1
open PySem PySem.Spec PyProof.Rows L2

/-- what a response needs: all over D, its first place a whole number over D -/
structure Rsp (D β0 : Int) (B C n : Nat) (t b : List Rat) : Prop where
  d0 : D ≠ 0
  f0 : fn b 0 * (D : Rat) = (β0 : Rat)
  b0 : β0 ≠ 0
  bB : β0.natAbs ≤ B
  bC : 6 * B ≤ C
  c1 : 1 ≤ C
  sb : ∀ x ∈ b, Sc D B x
  st : ∀ x ∈ t, Sc D B x
  sD : D.natAbs < 2 ^ 100
  sB : B < 2 ^ 100
  sC : C ^ (n + 1) < 2 ^ 900
theorem Rsp.ne {D β0 : Int} {B C n : Nat} {t b : List Rat} (h : Rsp D β0 B C n t b) : fn b 0 ≠ 0 := fun z => by
  have e := h.f0
  rw [z] at e
  have := cast_ne h.b0
  grind
theorem Rsp.pos {D β0 : Int} {B C n : Nat} {t b : List Rat} (h : Rsp D β0 B C n t b) : 0 < b.length := by
  by_cases c : 0 < b.length
  · exact c
  · exact absurd (fn_ge (qs := b) (i := 0) (by omega)) h.ne
theorem Rsp.row {D β0 : Int} {B C n : Nat} {t b : List Rat} (h : Rsp D β0 B C n t b) {i : Nat} (hi : i ≤ n) : ∀ q ∈ quo t b i, Sc (β0 ^ n) (C ^ n) q := fun q hq => by
  obtain ⟨j, hj⟩ := List.getElem?_of_mem hq
  have lj := (List.getElem?_eq_some_iff.mp hj).1
  rw [quo_len] at lj
  have s := quo_sc h.d0 h.f0 h.b0 h.bB h.bC h.sb (fn_sc h.st) i j q hj
  have s2 := s.scale (k := β0 ^ (n - (j + 1)))
  rw [← Int.pow_add, show j + 1 + (n - (j + 1)) = n by omega] at s2
  refine s2.mono ?_
  rw [Int.natAbs_pow]
  have : β0.natAbs ^ (n - (j + 1)) ≤ C ^ (n - (j + 1)) := Nat.pow_le_pow_left (by have := h.bB; have := h.bC; omega) _
  have e : C ^ n = C ^ (j + 1) * C ^ (n - (j + 1)) := by rw [← Nat.pow_add, show j + 1 + (n - (j + 1)) = n by omega]
  rw [e]
  exact Nat.mul_le_mul_left _ this
theorem Rsp.pw {D β0 : Int} {B C n : Nat} {t b : List Rat} (h : Rsp D β0 B C n t b) {i : Nat} (hi : i ≤ n + 1) : C ^ i < 2 ^ 900 ∧ (β0 ^ i).natAbs < 2 ^ 900 := by
  have h1 : C ^ i ≤ C ^ (n + 1) := Nat.pow_le_pow_right h.c1 hi
  have h2 : β0.natAbs ^ i ≤ C ^ i := Nat.pow_le_pow_left (by have := h.bB; have := h.bC; omega) _
  have := h.sC
  rw [Int.natAbs_pow]
  omega
theorem Sc.bits {D : Int} {B n : Nat} {q : Rat} (h : Sc D B q) (hD : D ≠ 0) (h1 : D.natAbs < 2 ^ n) (h2 : B < 2 ^ n) : q.num.natAbs < 2 ^ n ∧ ((q.den : Int)).natAbs < 2 ^ n := by
  have d : (q.den : Int).natAbs ∣ D.natAbs := Int.natAbs_dvd_natAbs.mpr h.den
  exact ⟨Nat.lt_of_le_of_lt (h.num hD) h2, Nat.lt_of_le_of_lt (Nat.le_of_dvd (by omega) d) h1⟩
/-- what a step of it makes -/
theorem Rsp.step {D β0 : Int} {B C n : Nat} {t b : List Rat} (h : Rsp D β0 B C n t b) {i : Nat} (hi : i < n) : Sc (D * β0 ^ i) (C ^ (i + 1)) (dotR b.tail (quo t b i).reverse) ∧ Sc (D * β0 ^ i) (C ^ (i + 1)) (fn t i - dotR b.tail (quo t b i).reverse) := by
  obtain ⟨S, eS, bS⟩ := horner h.bB h.bC b.tail (quo t b i).reverse i (fun x hx => h.sb x (List.mem_of_mem_tail hx)) fun k q hq => by
    have li : k < (quo t b i).length := by
      have := (List.getElem?_eq_some_iff.mp hq).1
      rw [List.length_reverse] at this
      exact this
    rw [List.getElem?_reverse li, quo_len] at hq
    rw [quo_len] at li
    have := quo_sc h.d0 h.f0 h.b0 h.bB h.bC h.sb (fn_sc h.st) i _ q hq
    rw [show i - 1 - k + 1 = i - k by omega] at this
    exact ⟨li, this⟩
  obtain ⟨τ, eτ, bτ⟩ := fn_sc h.st i
  have t1 : (τ * β0 ^ i).natAbs ≤ B * B ^ i := by
    rw [Int.natAbs_mul, Int.natAbs_pow]
    exact Nat.mul_le_mul bτ (Nat.pow_le_pow_left h.bB _)
  have t2 : 6 * (B * B ^ i) ≤ C ^ (i + 1) := by
    rw [← Nat.mul_assoc, Nat.pow_succ, Nat.mul_comm (C ^ i) C]
    exact Nat.mul_le_mul h.bC (Nat.pow_le_pow_left (by have := h.bC; omega) _)
  have t3 := Int.natAbs_sub_le (τ * β0 ^ i) S
  refine ⟨⟨S, ?_, by omega⟩, ⟨τ * β0 ^ i - S, ?_, by omega⟩⟩
  · push_cast at *
    grind
  · push_cast at *
    grind
theorem past_row (row : List Rat) (m : Nat) (h : m ≤ row.length) : (List.range' 1 m).map (fun j => fn row (row.length - j)) = row.reverse.take m := by
  apply List.ext_getElem?
  intro i
  rw [List.getElem?_take, List.getElem?_map]
  by_cases c : i < m
  · rw [if_pos c, List.getElem?_range' c, List.getElem?_reverse (by omega)]
    show some (fn row (row.length - (1 + 1 * i))) = _
    rw [show row.length - (1 + 1 * i) = row.length - 1 - i by omega, fn_lt (List.getElem?_eq_getElem (show row.length - 1 - i < row.length by omega)), List.getElem?_eq_getElem]
  · rw [if_neg c, List.getElem?_eq_none (by rw [List.length_range']; omega)]
    rfl
theorem dot_cutR : ∀ (xs ys : List Rat) (m : Nat), min xs.length ys.length ≤ m → dotR xs (ys.take m) = dotR xs ys
  | [], ys, m, _ => by
    cases ys <;> cases m <;> rfl
  | x :: xs, [], m, _ => by rw [List.take_nil]
  | x :: xs, y :: ys, 0, h => by
    rw [List.length_cons, List.length_cons] at h
    omega
  | x :: xs, y :: ys, m + 1, h => by
    show x * y + dotR xs (ys.take m) = x * y + dotR xs ys
    rw [dot_cutR xs ys m (by rw [List.length_cons, List.length_cons] at h; omega)]
def spQuo : Sp := fun vs H Q _ => ∃ (a c : Addr) (t b : List Rat) (n : Nat) (D β0 : Int) (B C : Nat), vs = [.ref a, .ref c, .int n] ∧ FrL H a t ∧ FrL H c b ∧ Rsp D β0 B C n t b ∧ b.length ≤ 1000 ∧ n ≤ 200 ∧ ∀ p H', H p = none → Same H H' → FrL H' p (quo t b n) → Q (.ref p) H'
def spResp : Sp := fun vs H Q _ => ∃ (a c : Addr) (t b : List Rat) (n : Nat) (D β0 : Int) (B C : Nat), vs = [.ref a, .ref c, .int n] ∧ FrL H a t ∧ FrL H c b ∧ Rsp D β0 B C n t b ∧ t.length ≤ 1000 ∧ b.length ≤ 1000 ∧ n ≤ 200 ∧ ∀ p H', H p = none → Same H H' → FrL H' p (quo t b n) → Q (.ref p) H'
theorem cut_one {us : List V} (h : 0 < us.length) : cutV us (some 1) none = us.drop 1 := by
  unfold cutV
  have e : HT.sIx us.length 0 (some ((1 : Nat) : Int)) = min 1 us.length := HT.sIx_nat ..
  have e1 : HT.sIx us.length 0 (some 1) = min 1 us.length := e
  rw [e1, HT.sIx_none, Nat.min_eq_left h, List.take_of_length_le (by rw [List.length_drop]; exact Nat.le_refl _)]
section
variable {P : Program} {w : World} {K : PySem.W.Frag} {mg : Str → Option Value} {base : Heap}
theorem sc_quotient : FnScope ["top", "bottom", "many", "row", "at", "past", "left", "k"] ["top", "bottom", "many"] (defScope s_quotient) := ⟨rfl, rfl, rfl, by decide +kernel, rfl, by decide +kernel, by decide +kernel⟩
theorem ok_quotient {f : Addr} {fd : FuncData} (F : Fun K "quotient" "quotient" s_quotient f fd) (z : Zs mg) (c_minus : Cal P w K mg base 3 "minus" ["one", "other"] (spTwo K (fun t u v x => True) (fun t u v x => t * x - v * u) (fun t u v x => u * x))) (c_divided : Cal P w K mg base 3 "divided" ["one", "other"] (spTwo K (fun t u v x => v ≠ 0) (fun t u v x => t * x) (fun t u v x => u * v))) (c_place_of : Cal P w K mg base 1 "place_of" ["series", "at"] (spPlaceOf K)) (c_sum_of_products : Cal P w K mg base 4 "sum_of_products" ["xs", "ys"] spSop) : FnOk P w K mg base CX0 5 f fd ["top", "bottom", "many"] spQuo := by
  refine F.ok sc_quotient (fun vs H Q E h => ?_) (fun cdv A outer s H vs Q E hr h => ?_)
  · obtain ⟨a, c, t, b, n, D, β0, B, C, rfl, _⟩ := h
    rfl
  · obtain ⟨a, c, t, b, n, D, β0, B, C, rfl, ht, hb, hR, lb, ln, q⟩ := h
    refine ⟨_, (pss_cons (ps_set (i := 3) sc_quotient.nd rfl (.inr rfl) (pe_lst pa_nil))
      (pss_cons (ps_for PassesOwn.never rfl (pi_range1 (by rfl) z.range (pa_cons (pv 2) pa_nil)) (pg_name (i := 4) sc_quotient.nd rfl (.inr rfl)) (pss_cons (ps_setLc (i := 5) (own := [("k", 7)]) (g := gName 7) (tt := tYes) (te := (tOp (rIxL K) (tVar 3) (tOp (rI0 fun i j => V.int (i - j)) (tVar 4) (tVar 7)))) (by rfl) sc_quotient.nd rfl rfl (sw_true rfl rfl rfl (by decide +kernel)) (pi_range2 (by rfl) z.range (pa_cons pe_int (pa_cons (pe_callB (call_min2 rfl) (by rfl) z.min (by decide +kernel) (pa_cons (pe_op op_add (pv 4) pe_int) (pa_cons (pe_callB call_len_seq (by rfl) z.len PySem.boot_len (pa_cons (pv 1) pa_nil)) pa_nil))) pa_nil))) (blkOk_by (own := [("k", 7)]) (N := ["top", "bottom", "many", "row", "at", "past", "left", "k"]) (sc := defScope s_quotient) (by decide +kernel)) (fun _ _ _ _ _ => by exact (pg_name (i := 7) sc_quotient.nd rfl (.inl rfl))) (fun _ _ _ _ _ => by exact pts_nil) (fun _ _ _ _ _ => by exact (pe_ix ix_list (pv 3) (pe_op op_sub (pv 4) (pv 7)) (fun _ _ => rfl))))
      (pss_cons (ps_set (i := 6) sc_quotient.nd rfl (.inl rfl) (pe_cal c_minus hr (pa_cons (pe_cal c_place_of hr (pa_cons (pv 0) (pa_cons (pv 4) pa_nil))) (pa_cons (pe_cal c_sum_of_products hr (pa_cons (pe_slice sl_list (pv 1) (po_some pe_int) po_none) (pa_cons (pv 5) pa_nil))) pa_nil))))
      (pss_one (ps_expr (pe_bm PySem.F.plainAttrs_list PySem.F.slot_list_append PySem.F.type_list_append mt_append (pv 3) (pa_cons (pe_cal c_divided hr (pa_cons (pv 6) (pa_cons (pe_ix ix_list (pv 1) pe_int (fun _ _ => rfl)) pa_nil))) pa_nil)))))))
      (pss_one (ps_ret (pv 3))))), ?_⟩
    refine ⟨(by show 0 ≤ sizeLine; decide), fun R hRn => ?_⟩
    obtain ⟨us, hc, hul, hu⟩ := hb.len
    have hpos := hR.pos
    refine ⟨_, rfl, _, rfl, by omega, by omega, ?_⟩
    rw [Int.toNat_natCast]
    refine for_range (n := n) (fun i σ H' => Same H H' ∧ FrL H' R (quo t b i) ∧ ∃ y4 y5 y6 : Option V, σ = [some (.ref a), some (.ref c), some (.int n), some (.ref R), y4, y5, y6, none]) ⟨same_new hRn, ⟨[], upd_same, .nil⟩, none, none, none, rfl⟩ (fun i σ H1 hi hP => ?_) (fun σ H1 hP => ?_)
    · obtain ⟨s1, ⟨ws, hw, hws⟩, y4, y5, y6, rfl⟩ := hP
      have hwl := FrsAt.len hws
      rw [quo_len] at hwl
      rw [show (0 : Int) + (i : Int) = (i : Int) by omega]
      have hc1 := s1 _ _ hc
      refine ⟨_, rfl, _, _, rfl, rfl, _, rfl, c, _, rfl, .inl (SqL.of hc1), _, _, rfl, ?_⟩
      rw [hul]
      have em : (if (b.length : Int) < (i : Int) + 1 then (b.length : Int) else (i : Int) + 1) = ((min (i + 1) b.length : Nat) : Int) := by
        split <;> omega
      rw [em]
      refine ⟨1, _, rfl, ⟨by decide, by decide, by omega, by omega⟩, fun l hD => ?_⟩
      rw [show (((min (i + 1) b.length : Nat) : Int) - 1).toNat = min (i + 1) b.length - 1 by omega]
      generalize hm : min (i + 1) b.length - 1 = m at *
      have mi : m ≤ i := by omega
      refine lc_range (lo := 1) (n := m) (fun j H' => Same H1 H' ∧ ∃ zs, H' l = some (.lst zs) ∧ FrsAt H' zs ((List.range' 1 j).map fun k => fn (quo t b i) (i - k)) ∧ zs.length = j) ⟨same_new hD, [], upd_same, .nil, rfl⟩ (fun j H2 hj hP => ?_) (fun H2 hP => ?_)
      · obtain ⟨s2, zs, hz, hzs, hzl⟩ := hP
        have ix : i - (1 + j) < (quo t b i).length := by
          rw [quo_len]
          omega
        obtain ⟨p, hp1, hp⟩ := FrsAt.fn hws ix
        have ei : (i : Int) - ((1 : Int) + (j : Int)) = ((i - (1 + j) : Nat) : Int) := by omega
        refine ⟨rfl, _, rfl, _, rfl, _, rfl, _, _, rfl, rfl, R, _, _, .ref p, rfl, rfl, SqL.of (s2 _ _ hw), (by rw [ei]; exact atI_nat hp1), ?_⟩
        refine ⟨_, hz, small1000 (by omega), fun b' o e => ?_, zs ++ [.ref p], upd_same, ?_, by rw [List.length_append, hzl]; rfl⟩
        · rw [upd_ne (ne_of_none e hD)]
          exact s2 _ _ e
        · have A : FrsAt (upd H2 l (.lst (zs ++ [.ref p]))) zs ((List.range' 1 j).map fun k => fn (quo t b i) (i - k)) := PrsAt.but hzs SameBut.upd hz
          rw [List.range'_concat, List.map_append]
          refine FrsAt.app A (FrsAt.one ?_)
          show Fr _ p (fn (quo t b i) (i - (1 + 1 * j)))
          rw [Nat.one_mul]
          show (upd H2 l (.lst (zs ++ [.ref p]))) p = _
          rw [upd_ne (ne_of (s2 _ _ hp) hz (fun z => nomatch z))]
          exact s2 _ _ hp
      · obtain ⟨s2, zs, hz, hzs, hzl⟩ := hP
        have ep : (List.range' 1 m).map (fun k => fn (quo t b i) (i - k)) = (quo t b i).reverse.take m := by
          have := past_row (quo t b i) m (by rw [quo_len]; exact mi)
          rw [quo_len] at this
          exact this
        rw [ep] at hzs
        have S2 := s1.trans s2
        refine ⟨_, rfl, _, rfl, a, t, i, rfl, ht.same S2, fun p1 hp1 => ?_⟩
        refine ⟨_, rfl, _, rfl, c, _, rfl, SqL.of (S2 _ _ hc), fun p2 h2 => ?_⟩
        have s3 := same_new (o := .lst (cutV us (some 1) none)) h2
        have S3 := S2.trans s3
        have hbt : FrsAt (upd H2 p2 (.lst (cutV us (some 1) none))) (cutV us (some 1) none) b.tail := by
          have h1 : FrsAt (upd H2 p2 (.lst (cutV us (some 1) none))) (us.drop 1) b.tail := by
            rw [← List.drop_one]
            exact PrsAt.same (FrsAt.drop hu 1) S3
          rw [← cut_one (us := us) (by omega)] at h1
          exact h1
        obtain ⟨hstep1, hstep2⟩ := hR.step hi
        have dv : dotR b.tail ((quo t b i).reverse.take m) = dotR b.tail (quo t b i).reverse := dot_cutR _ _ _ (by rw [List.length_tail, List.length_reverse, quo_len]; omega)
        have pwn := hR.pw (show n ≤ n + 1 by omega)
        have pwi := hR.pw (show i + 1 ≤ n + 1 by omega)
        have pwi0 := hR.pw (show i ≤ n + 1 by omega)
        refine ⟨_, rfl, p2, l, b.tail, (quo t b i).reverse.take m, D, β0 ^ n, B, C ^ n, rfl, ⟨_, upd_same, hbt⟩, ⟨zs, s3 _ _ hz, PrsAt.same hzs s3⟩, ⟨hR.d0, up hR.sD (by decide), up hR.sB (by decide), fun x hx => hR.sb x (List.mem_of_mem_tail hx)⟩, ⟨Int.pow_ne_zero hR.b0, up pwn.2 (by decide), up pwn.1 (by decide), fun x hx => hR.row (show i ≤ n by omega) x (List.mem_reverse.mp (List.mem_of_mem_take hx))⟩, by rw [List.length_tail]; omega, fun p3 H3 hp3 s4 hF => ?_⟩
        rw [dv] at hF
        have DB : D * β0 ^ i ≠ 0 := Int.mul_ne_zero hR.d0 (Int.pow_ne_zero hR.b0)
        have DL : (D * β0 ^ i).natAbs < 2 ^ 1000 := by
          rw [Int.natAbs_mul]
          have : D.natAbs * (β0 ^ i).natAbs < 2 ^ 100 * 2 ^ 900 := Nat.mul_lt_mul'' hR.sD pwi0.2
          rw [← Nat.pow_add] at this
          exact this
        have b1 := (fn_sc hR.st i).bits hR.d0 (up hR.sD (show 100 ≤ 1900 by decide)) (up hR.sB (by decide))
        have b2 := hstep1.bits DB (up DL (show 1000 ≤ 1900 by decide)) (up pwi.1 (by decide))
        have b3 := hstep2.bits DB (up DL (show 1000 ≤ 1900 by decide)) (up pwi.1 (by decide))
        have S4 := S3.trans s4
        refine ⟨p1, p3, _, _, _, _, rfl, Same.tup (s3.trans s4) hp1, SqT.of hF, trivial, den_ge _, den_ge _, b1.1, b1.2, b2.1, b2.2, fun p4 hp4 => ?_⟩
        have hF4 := Fr.low (Int.mul_ne_zero (den_ne _) (den_ne _)) (minus_q (fn t i) (dotR b.tail (quo t b i).reverse)) (upd_same (H := H3) (a := p4))
        have s5 := same_new (o := .tup [.int (lowT ((fn t i).num * (dotR b.tail (quo t b i).reverse).den - (dotR b.tail (quo t b i).reverse).num * (fn t i).den) ((fn t i).den * (dotR b.tail (quo t b i).reverse).den)), .int (lowB ((fn t i).num * (dotR b.tail (quo t b i).reverse).den - (dotR b.tail (quo t b i).reverse).num * (fn t i).den) ((fn t i).den * (dotR b.tail (quo t b i).reverse).den))]) hp4
        have S5 := S4.trans s5
        obtain ⟨pb, hpb1, hpb⟩ := FrsAt.fn (PrsAt.same hu S5) hpos
        have b4 := (hR.sb _ (fn_mem hpos)).bits hR.d0 (up hR.sD (show 100 ≤ 1900 by decide)) (up hR.sB (by decide))
        have hw5 := s5 _ _ (s4 _ _ (s3 _ _ (s2 _ _ hw)))
        refine ⟨_, rfl, .inl ⟨rfl, _, SqL.of hw5⟩, _, rfl, _, rfl, c, _, 0, .ref pb, rfl, rfl, SqL.of (S5 _ _ hc), atI_nat (j := 0) hpb1, p4, pb, _, _, _, _, rfl, SqT.of hF4, SqT.of hpb, num_ne hR.ne, den_ge _, den_ge _, b3.1, b3.2, b4.1, b4.2, fun p5 hp5 => ?_⟩
        have hF5 := fun G : Hp => Fr.low (Int.mul_ne_zero (den_ne _) (num_ne hR.ne)) (divided_q (fn t i - dotR b.tail (quo t b i).reverse) (fn b 0) hR.ne) (upd_same (H := G) (a := p5))
        have s6 := fun o => same_new (o := o) hp5
        refine ⟨R, ws, _, rfl, rfl, s6 _ _ _ hw5, small1000 (by omega), fun b' o e => ?_, ⟨ws ++ [.ref p5], upd_same, ?_⟩, _, _, _, rfl⟩
        · rw [upd_ne (ne_of_none e hRn)]
          exact s6 _ _ _ (S5 _ _ e)
        · refine FrsAt.app (PrsAt.but (PrsAt.same (PrsAt.same (PrsAt.same hws s2) (s3.trans (s4.trans s5))) (s6 _)) SameBut.upd (s6 _ _ _ hw5)) (FrsAt.one ?_)
          have e : nxt t b (quo t b i) = (fn t i - dotR b.tail (quo t b i).reverse) / fn b 0 := by
            unfold nxt
            rw [quo_len]
          rw [e]
          show (upd _ R _) p5 = _
          rw [upd_ne (fun z => by rw [z, hw5] at hp5; cases hp5)]
          exact hF5 _
    · obtain ⟨s1, hF, y4, y5, y6, rfl⟩ := hP
      exact ⟨_, rfl, q R H1 hRn s1 hF⟩
theorem sc_response : FnScope ["top", "bottom", "many"] ["top", "bottom", "many"] (defScope s_response) := ⟨rfl, rfl, rfl, by decide +kernel, rfl, by decide +kernel, by decide +kernel⟩
theorem ok_response {f : Addr} {fd : FuncData} (F : Fun K "response" "response" s_response f fd) {tk : Tok} (gM : mg "MOST_PLACES" = some (.int 200 tk)) (c_is_whole : Cal P w K mg base 1 "is_whole" ["thing"] (spWhole K)) (c_check_series : Cal P w K mg base 4 "check_series" ["thing"] spChkS) (c_check_bottom : Cal P w K mg base 5 "check_bottom" ["thing"] spChkB) (c_quotient : Cal P w K mg base 5 "quotient" ["top", "bottom", "many"] spQuo) : FnOk P w K mg base CX0 6 f fd ["top", "bottom", "many"] spResp := by
  refine F.ok sc_response (fun vs H Q E h => ?_) (fun cdv A outer s H vs Q E hr h => ?_)
  · obtain ⟨a, c, t, b, n, D, β0, B, C, rfl, _⟩ := h
    rfl
  · obtain ⟨a, c, t, b, n, D, β0, B, C, rfl, ht, hb, hR, lt, lb, ln, q⟩ := h
    refine ⟨_, (pss_cons (ps_expr (pe_cal c_check_series hr (pa_cons (pv 0) pa_nil)))
      (pss_cons (ps_expr (pe_cal c_check_bottom hr (pa_cons (pv 1) pa_nil)))
      (pss_cons (ps_if (PW.pt (pw_or (pt_not (pt_val (pe_cal c_is_whole hr (pa_cons (pv 2) pa_nil)))) (pw_or1 (pt_not (pt_chain op_le op_le pe_int (pv 2) (pe_glob (v := .int 200) (by rfl) gM ⟨_, rfl⟩)))))) (pss_one ps_never) pss_nil)
      (pss_one (ps_ret (pe_cal c_quotient hr (pa_cons (pv 0) (pa_cons (pv 1) (pa_cons (pv 2) pa_nil))))))))), ?_⟩
    refine ⟨_, rfl, a, t, rfl, ht, lt, fun H1 s1 => ?_⟩
    refine ⟨_, rfl, c, b, rfl, hb.same s1, lb, hR.pos, hR.ne, fun H2 s2' => ?_⟩
    have s2 := s1.trans s2'
    refine ⟨_, rfl, _, true, rfl, .int _, _, rfl, iteF ⟨_, rfl, _, _, rfl, rfl, _, rfl, ite2 (fun _ => ⟨_, _, rfl, rfl, _, rfl, iteN (fun c' => absurd (show (n : Int) ≤ 200 by omega) c') (fun _ => ?_)⟩) (fun c' => absurd (decide_eq_true (show (0 : Int) ≤ (n : Int) by omega)) c')⟩⟩
    exact ⟨_, rfl, _, rfl, _, rfl, a, c, t, b, n, D, β0, B, C, rfl, ht.same s2, hb.same s2, hR, lb, ln, fun p H3 hp s3 hF => q p H3 (s2.free hp) (s2.trans s3) hF⟩
end
end E1

namespace E1
open PySem PySem.Spec PyProof.Rows L2

def pl (xs ys : List Rat) (n : Nat) : List Rat := (List.range n).map (cv (fn xs) (fn ys))
theorem pl_len (xs ys : List Rat) (n : Nat) : (pl xs ys n).length = n := by
  rw [pl, List.length_map, List.length_range]
theorem pl_succ (xs ys : List Rat) (n : Nat) : pl xs ys (n + 1) = pl xs ys n ++ [cv (fn xs) (fn ys) n] := by
  rw [pl, List.range_succ, List.map_append]
  rfl
def spFirst : Sp := fun vs H Q _ => ∃ (a c : Addr) (xs ys : List Rat) (n : Nat) (D E : Int) (B C : Nat), vs = [.ref a, .ref c, .int n] ∧ FrL H a xs ∧ FrL H c ys ∧ Bnd D B xs ∧ Bnd E C ys ∧ xs.length ≤ 400 ∧ ys.length ≤ 400 ∧ n ≤ 900 ∧ ∀ p H', H p = none → Same H H' → FrL H' p (pl xs ys n) → Q (.ref p) H'
/-- the product of two series -/
def mulL (xs ys : List Rat) : List Rat := if xs = [] ∨ ys = [] then [] else pl xs ys (xs.length + ys.length - 1)
def spProd : Sp := fun vs H Q _ => ∃ (a c : Addr) (xs ys : List Rat) (D E : Int) (B C : Nat), vs = [.ref a, .ref c] ∧ FrL H a xs ∧ FrL H c ys ∧ Bnd D B xs ∧ Bnd E C ys ∧ xs.length ≤ 400 ∧ ys.length ≤ 400 ∧ ∀ p H', H p = none → Same H H' → FrL H' p (mulL xs ys) → Q (.ref p) H'
/-- what is answered -/
def ansL (t b x : List Rat) : List Rat := quo (pl t x x.length) b x.length
def spAns : Sp := fun vs H Q _ => ∃ (a c e : Addr) (t b x : List Rat) (D β0 D1 D2 : Int) (B C B1 B2 : Nat), vs = [.ref a, .ref c, .ref e] ∧ FrL H a t ∧ FrL H c b ∧ FrL H e x ∧ Bnd D1 B1 t ∧ Bnd D2 B2 x ∧ Rsp D β0 B C x.length (pl t x x.length) b ∧ t.length ≤ 400 ∧ b.length ≤ 400 ∧ x.length ≤ 200 ∧ ∀ p H', H p = none → Same H H' → FrL H' p (ansL t b x) → Q (.ref p) H'
section
variable {P : Program} {w : World} {K : PySem.W.Frag} {mg : Str → Option Value} {base : Heap}
theorem sc_first_places : FnScope ["one", "other", "many", "at"] ["one", "other", "many"] (defScope s_first_places) := ⟨rfl, rfl, rfl, by decide +kernel, rfl, by decide +kernel, by decide +kernel⟩
theorem ok_first_places {f : Addr} {fd : FuncData} (F : Fun K "first_places" "first_places" s_first_places f fd) (z : Zs mg) (c_product_place : Cal P w K mg base 5 "product_place" ["one", "other", "at"] spPPlace) : FnOk P w K mg base CX0 6 f fd ["one", "other", "many"] spFirst := by
  refine F.ok sc_first_places (fun vs H Q E h => ?_) (fun cdv A outer s H vs Q E hr h => ?_)
  · obtain ⟨a, c, xs, ys, n, D, E, B, C, rfl, _⟩ := h
    rfl
  · obtain ⟨a, c, xs, ys, n, D, E, B, C, rfl, hx, hy, hB, hC, lx, ly, ln, q⟩ := h
    refine ⟨_, (pss_one (ps_ret (pe_lc (own := [("at", 3)]) (g := gName 3) (tt := tYes) (te := (tCall spPPlace [] E0 (tCons (tVar 0) (tCons (tVar 1) (tCons (tVar 3) tNil))))) (by rfl) sc_first_places.nd (pi_range1 (by rfl) z.range (pa_cons (pv 2) pa_nil)) (blkOk_by (own := [("at", 3)]) (N := ["one", "other", "many", "at"]) (sc := defScope s_first_places) (by decide +kernel)) (fun _ _ _ _ _ => by exact (pg_name (i := 3) sc_first_places.nd rfl (.inl rfl))) (fun _ _ _ _ _ => by exact pts_nil) (fun _ _ _ _ _ => by exact (pe_cal c_product_place hr (pa_cons (pv 0) (pa_cons (pv 1) (pa_cons (pv 3) pa_nil)))))))), ?_⟩
    refine ⟨_, rfl, _, rfl, by omega, by omega, fun l hD => ?_⟩
    rw [Int.toNat_natCast]
    refine lc_range (lo := 0) (n := n) (fun i H' => Same H H' ∧ FrL H' l (pl xs ys i)) ⟨same_new hD, [], upd_same, .nil⟩ (fun i H2 hi hP => ?_) (fun H2 hP => ?_)
    · obtain ⟨s2, ws, hw, hws⟩ := hP
      have hwl := FrsAt.len hws
      rw [pl_len] at hwl
      rw [show (0 : Int) + (i : Int) = (i : Int) by omega]
      refine ⟨rfl, _, rfl, _, rfl, _, rfl, a, c, xs, ys, i, D, E, B, C, rfl, hx.same s2, hy.same s2, hB, hC, by omega, by omega, by omega, fun p H3 hp s3 hF => ?_⟩
      have hw3 := s3 _ _ hw
      refine ⟨_, hw3, small1000 (by omega), fun b o e => ?_, ws ++ [.ref p], upd_same, ?_⟩
      · rw [upd_ne (ne_of_none e hD)]
        exact s3 _ _ (s2 _ _ e)
      · rw [pl_succ]
        refine FrsAt.app (PrsAt.but (PrsAt.same hws s3) SameBut.upd hw3) (FrsAt.one ?_)
        show (upd H3 l (.lst (ws ++ [.ref p]))) p = _
        rw [upd_ne (fun z => by rw [z, hw] at hp; cases hp)]
        exact hF
    · obtain ⟨s2, hF⟩ := hP
      exact q l H2 hD s2 hF
theorem sc_answered : FnScope ["top", "bottom", "inputs"] ["top", "bottom", "inputs"] (defScope s_answered) := ⟨rfl, rfl, rfl, by decide +kernel, rfl, by decide +kernel, by decide +kernel⟩
theorem ok_answered {f : Addr} {fd : FuncData} (F : Fun K "answered" "answered" s_answered f fd) (z : Zs mg) (c_check_series : Cal P w K mg base 4 "check_series" ["thing"] spChkS) (c_check_bottom : Cal P w K mg base 5 "check_bottom" ["thing"] spChkB) (c_first_places : Cal P w K mg base 6 "first_places" ["one", "other", "many"] spFirst) (c_quotient : Cal P w K mg base 5 "quotient" ["top", "bottom", "many"] spQuo) : FnOk P w K mg base CX0 7 f fd ["top", "bottom", "inputs"] spAns := by
  refine F.ok sc_answered (fun vs H Q E h => ?_) (fun cdv A outer s H vs Q E hr h => ?_)
  · obtain ⟨a, c, e, t, b, x, D, β0, D1, D2, B, C, B1, B2, rfl, _⟩ := h
    rfl
  · obtain ⟨a, c, e, t, b, x, D, β0, D1, D2, B, C, B1, B2, rfl, ht, hb, hx, b1, b2, hR, lt, lb, lx, q⟩ := h
    refine ⟨_, (pss_cons (ps_expr (pe_cal c_check_series hr (pa_cons (pv 0) pa_nil)))
      (pss_cons (ps_expr (pe_cal c_check_bottom hr (pa_cons (pv 1) pa_nil)))
      (pss_cons (ps_expr (pe_cal c_check_series hr (pa_cons (pv 2) pa_nil)))
      (pss_one (ps_ret (pe_cal c_quotient hr (pa_cons (pe_cal c_first_places hr (pa_cons (pv 0) (pa_cons (pv 2) (pa_cons (pe_callB call_len_seq (by rfl) z.len PySem.boot_len (pa_cons (pv 2) pa_nil)) pa_nil)))) (pa_cons (pv 1) (pa_cons (pe_callB call_len_seq (by rfl) z.len PySem.boot_len (pa_cons (pv 2) pa_nil)) pa_nil))))))))), ?_⟩
    refine ⟨_, rfl, a, t, rfl, ht, by omega, fun H1 s1 => ?_⟩
    refine ⟨_, rfl, c, b, rfl, hb.same s1, by omega, hR.pos, hR.ne, fun H2 s2' => ?_⟩
    have s2 := s1.trans s2'
    refine ⟨_, rfl, e, x, rfl, hx.same s2, by omega, fun H3 s3' => ?_⟩
    have s3 := s2.trans s3'
    obtain ⟨vs, he, hvl, hv⟩ := (hx.same s3).len
    refine ⟨_, rfl, _, rfl, _, rfl, e, _, rfl, .inl (SqL.of he), a, e, t, x, x.length, D1, D2, B1, B2, by rw [hvl]; rfl, ht.same s3, hx.same s3, b1, b2, by omega, by omega, by omega, fun p H4 hp s4 hF => ?_⟩
    have S4 := s3.trans s4
    obtain ⟨vs4, he4, hvl4, hv4⟩ := (hx.same S4).len
    exact ⟨_, rfl, _, rfl, e, _, rfl, .inl (SqL.of he4), p, c, _, b, x.length, D, β0, B, C, by rw [hvl4]; rfl, hF, hb.same S4, hR, by omega, by omega, fun p5 H5 hp5 s5 hF5 => q p5 H5 (S4.free hp5) (S4.trans s5) hF5⟩
theorem sc_product_of : FnScope ["one", "other"] ["one", "other"] (defScope s_product_of) := ⟨rfl, rfl, rfl, by decide +kernel, rfl, by decide +kernel, by decide +kernel⟩
theorem ok_product_of {f : Addr} {fd : FuncData} (F : Fun K "product_of" "product_of" s_product_of f fd) (z : Zs mg) (c_check_series : Cal P w K mg base 4 "check_series" ["thing"] spChkS) (c_first_places : Cal P w K mg base 6 "first_places" ["one", "other", "many"] spFirst) : FnOk P w K mg base CX0 7 f fd ["one", "other"] spProd := by
  refine F.ok sc_product_of (fun vs H Q E h => ?_) (fun cdv A outer s H vs Q E hr h => ?_)
  · obtain ⟨a, c, xs, ys, D, E, B, C, rfl, _⟩ := h
    rfl
  · obtain ⟨a, c, xs, ys, D, E, B, C, rfl, hx, hy, hB, hC, lx, ly, q⟩ := h
    refine ⟨_, (pss_cons (ps_expr (pe_cal c_check_series hr (pa_cons (pv 0) pa_nil)))
      (pss_cons (ps_expr (pe_cal c_check_series hr (pa_cons (pv 1) pa_nil)))
      (pss_cons (ps_if (PW.pt (pw_or (pt_not (pt_truth (pv 0) (by intro _; rfl))) (pw_or1 (pt_not (pt_truth (pv 1) (by intro _; rfl)))))) (pss_one (ps_ret (pe_lst pa_nil))) pss_nil)
      (pss_one (ps_ret (pe_cal c_first_places hr (pa_cons (pv 0) (pa_cons (pv 1) (pa_cons (pe_op op_sub (pe_op op_add (pe_callB call_len_seq (by rfl) z.len PySem.boot_len (pa_cons (pv 0) pa_nil)) (pe_callB call_len_seq (by rfl) z.len PySem.boot_len (pa_cons (pv 1) pa_nil))) pe_int) pa_nil))))))))), ?_⟩
    refine ⟨_, rfl, a, xs, rfl, hx, by omega, fun H1 s1 => ?_⟩
    refine ⟨_, rfl, c, ys, rfl, hy.same s1, by omega, fun H2 s2' => ?_⟩
    have s2 := s1.trans s2'
    obtain ⟨vs, ha, hvl, hv⟩ := (hx.same s2).len
    obtain ⟨us, hc, hul, hu⟩ := (hy.same s2).len
    have vx : vs = [] ↔ xs = [] := by
      rw [← List.length_eq_zero_iff, hvl, List.length_eq_zero_iff]
    have ux : us = [] ↔ ys = [] := by
      rw [← List.length_eq_zero_iff, hul, List.length_eq_zero_iff]
    have go : (xs = [] ∨ ys = []) → ∀ p, H2 p = none → Q (.ref p) (upd H2 p (.lst [])) := fun e p hp => q p _ (s2.free hp) (s2.trans (same_new hp)) ⟨[], upd_same, by rw [mulL, if_pos e]; exact .nil⟩
    refine ⟨_, rfl, !vs.isEmpty, .inl ⟨vs, SqL.of ha, rfl⟩, ?_⟩
    cases vs with
    | nil => exact iteT (iteT ⟨(by show 0 ≤ sizeLine; decide), fun p hp => go (.inl (vx.mp rfl)) p hp⟩)
    | cons v0 vs0 =>
      refine iteF ⟨_, rfl, !us.isEmpty, .inl ⟨us, SqL.of hc, rfl⟩, ?_⟩
      cases us with
      | nil => exact iteT ⟨(by show 0 ≤ sizeLine; decide), fun p hp => go (.inr (ux.mp rfl)) p hp⟩
      | cons u0 us0 =>
        have nx : ¬ (xs = [] ∨ ys = []) := fun z => by
          rcases z with z | z
          · cases vx.mpr z
          · cases ux.mpr z
        have px : 0 < xs.length := by rw [← hvl]; exact Nat.succ_pos _
        have py : 0 < ys.length := by rw [← hul]; exact Nat.succ_pos _
        refine iteF ⟨_, rfl, _, rfl, _, rfl, a, _, rfl, .inl (SqL.of ha), _, rfl, c, _, rfl, .inl (SqL.of hc), _, _, rfl, rfl, _, _, rfl, rfl, a, c, xs, ys, xs.length + ys.length - 1, D, E, B, C, ?_, hx.same s2, hy.same s2, hB, hC, lx, ly, by omega, fun p H3 hp s3 hF => q p H3 (s2.free hp) (s2.trans s3) ?_⟩
        · rw [hvl, hul, show (((xs.length + ys.length - 1 : Nat)) : Int) = (xs.length : Int) + (ys.length : Int) - 1 by omega]
          rfl
        · rw [mulL, if_neg nx]
          exact hF
end
end E1

namespace E1
open PySem PySem.Spec PyProof.Rows L2

theorem lowTP {t b : Int} (hb : 0 < b) : t / gI t b = lowT t b ∧ b / gI t b = lowB t b := by
  unfold lowT lowB
  rw [if_neg (by omega), if_neg (by omega)]
  exact ⟨rfl, rfl⟩
def spLowP : Sp := fun vs H Q _ => ∃ t b : Int, vs = [.int t, .int b] ∧ 0 < b ∧ b.natAbs < 2 ^ 4000 ∧ ∀ p, H p = none → Q (.ref p) (upd H p (.tup [.int (lowT t b), .int (lowB t b)]))
def spOne : Sp := fun vs H Q _ => ∃ (w a : Addr) (c : Int) (us : List V), vs = [.ref w, .ref a] ∧ WellAt H w c ∧ c ≤ 100000000 ∧ a ≠ w ∧ H a = some (.lst us) ∧ 0 < us.length ∧ us.length ≤ 1000 ∧ ∀ v ∈ us, ∀ H', SameBut w H H' → (∀ b, H b = none → H' b = none) → WellAt H' w (c + 1) → Q v H'
def spSumP : Sp := fun vs H Q _ => ∃ (a : Addr) (ws : List V) (ps : List (Int × Int)) (D : Int), vs = [.ref a] ∧ H a = some (.lst ws) ∧ PrsAt H ws ps ∧ D ≠ 0 ∧ D.natAbs < 2 ^ 1000 ∧ (∀ p ∈ ps, 0 < p.2 ∧ p.2 ∣ D ∧ p.1.natAbs < 2 ^ 1000) ∧ ps.length ≤ 100 ∧
  ∀ p H', H p = none → Same H H' → Fr H' p (sumR (ps.map fun p => Rat.divInt p.1 p.2)) → Q (.ref p) H'
/-- a place, a list of places: what was there stays but for the well -/
def spPlace : Sp := fun vs H Q _ => ∃ (w : Addr) (c kd : Int), vs = [.ref w, .int kd] ∧ WellAt H w c ∧ c ≤ 10000000 ∧ ∀ p q H', H p = none → SameBut w H H' → WellAt H' w (c + 2) → Fr H' p q → Sc 2520 2520000000000 q → Q (.ref p) H'
def spSeries : Sp := fun vs H Q _ => ∃ (w : Addr) (c kd : Int) (n : Nat), vs = [.ref w, .int n, .int kd] ∧ WellAt H w c ∧ c ≤ 1000000 ∧ n ≤ 8 ∧ ∀ p qs H', H p = none → SameBut w H H' → WellAt H' w (c + 100) → FrL H' p qs → qs.length = n → (∀ q ∈ qs, Sc 2520 2520000000000 q) → Q (.ref p) H'
def spBottom : Sp := fun vs H Q _ => ∃ (w : Addr) (c kd : Int) (n : Nat), vs = [.ref w, .int n, .int kd] ∧ WellAt H w c ∧ c ≤ 900000 ∧ 1 ≤ n ∧ n ≤ 8 ∧ ∀ p qs H', H p = none → SameBut w H H' → WellAt H' w (c + 200) → FrL H' p qs → qs.length = n → (∀ q ∈ qs, Sc 2520 2520000000000 q) → fn qs 0 ≠ 0 → Q (.ref p) H'
theorem WellAt.ne {H : Hp} {a p : Addr} {c : Int} (h : WellAt H a c) (n : H p = none) : p ≠ a := fun e => by
  obtain ⟨_, _, _, z, _⟩ := h
  rw [← e, n] at z
  cases z
theorem but_free {H H' : Hp} {w p : Addr} (s : SameBut w H H') (h : H' p = none) (n : p ≠ w) : H p = none := by
  cases e : H p with
  | none => rfl
  | some o =>
    rw [s _ _ n e] at h
    cases h
theorem PrsAt.well {H H' : Hp} {w : Addr} {c : Int} {vs : List V} {ps : List (Int × Int)} (h : PrsAt H vs ps) (s : SameBut w H H') (hw : WellAt H w c) : PrsAt H' vs ps := by
  obtain ⟨_, _, _, e, _⟩ := hw
  exact h.but s e
theorem Fr.well {H H' : Hp} {w p : Addr} {c : Int} {q : Rat} (h : Fr H p q) (s : SameBut w H H') (hw : WellAt H w c) : Fr H' p q := by
  obtain ⟨_, _, _, e, _⟩ := hw
  exact s _ _ (ne_of h e (fun z => nomatch z)) h
theorem plus_div (q : Rat) {n o : Int} (ho : 0 < o) : Rat.divInt (q.num * o + n * q.den) (q.den * o) = q + Rat.divInt n o := by
  apply div_is (Int.mul_ne_zero (den_ne q) (by omega))
  have a := q_eq q
  have b := div_q (t := n) (b := o) (by omega)
  push_cast at *
  grind
theorem sum_sc {D : Int} (hD : D ≠ 0) (hl : D.natAbs < 2 ^ 1000) : ∀ ps : List (Int × Int), (∀ p ∈ ps, 0 < p.2 ∧ p.2 ∣ D ∧ p.1.natAbs < 2 ^ 1000) → Sc D (ps.length * 2 ^ 2000) (sumR (ps.map fun p => Rat.divInt p.1 p.2))
  | [], _ => .zero
  | p :: ps, h => by
    obtain ⟨p0, ⟨k, hk⟩, pl⟩ := h p List.mem_cons_self
    have i := sum_sc hD hl ps fun x hx => h x (List.mem_cons_of_mem _ hx)
    have one : Sc D (2 ^ 2000) (Rat.divInt p.1 p.2) := by
      refine ⟨p.1 * k, ?_, ?_⟩
      · have d := div_q (t := p.1) (b := p.2) (by omega)
        rw [hk]
        push_cast
        grind
      · have kl : k.natAbs ≤ D.natAbs := by
          rw [hk, Int.natAbs_mul]
          exact Nat.le_mul_of_pos_left _ (by omega)
        rw [Int.natAbs_mul]
        have : p.1.natAbs * k.natAbs ≤ 2 ^ 1000 * 2 ^ 1000 := Nat.mul_le_mul (by omega) (by omega)
        rw [← Nat.pow_add] at this
        exact this
    have := one.add i
    refine this.mono ?_
    rw [List.length_cons, Nat.add_mul, Nat.one_mul, Nat.add_comm]
    exact Nat.le_refl _
theorem place_sc {t b : Int} (ht : t.natAbs ≤ 1000000000) (hb : 1 ≤ b ∧ b ≤ 9) : Sc 2520 2520000000000 (Rat.divInt t b) := by
  have d := div_q (t := t) (b := b) (by omega)
  have hd : b ∣ 2520 := by
    have : b = 1 ∨ b = 2 ∨ b = 3 ∨ b = 4 ∨ b = 5 ∨ b = 6 ∨ b = 7 ∨ b = 8 ∨ b = 9 := by omega
    rcases this with rfl | rfl | rfl | rfl | rfl | rfl | rfl | rfl | rfl <;> decide
  obtain ⟨k, hk⟩ := hd
  have hk' : ((2520 : Int) : Rat) = (b : Rat) * (k : Rat) := by
    rw [hk]
    push_cast
    rfl
  refine ⟨t * k, ?_, ?_⟩
  · rw [hk']
    push_cast at *
    grind
  · have kl : k.natAbs ≤ 2520 := by
      have e : (2520 : Int).natAbs = b.natAbs * k.natAbs := by rw [hk, Int.natAbs_mul]
      have : k.natAbs ≤ b.natAbs * k.natAbs := Nat.le_mul_of_pos_left _ (by omega)
      omega
    rw [Int.natAbs_mul]
    exact Nat.le_trans (Nat.mul_le_mul ht kl) (by decide)
section
variable {P : Program} {w : World} {K : PySem.W.Frag} {mg : Str → Option Value} {base : Heap}
theorem sc__law_cell_at : FnScope ["_law_script", "_law_k"] ["_law_script", "_law_k"] (defScope s__law_cell_at) := ⟨rfl, rfl, rfl, by decide +kernel, rfl, by decide +kernel, by decide +kernel⟩
theorem sc__law_well : FnScope ["_law_cell"] ["_law_cell"] (defScope s__law_well) := ⟨rfl, rfl, rfl, by decide +kernel, rfl, by decide +kernel, by decide +kernel⟩
theorem sc__law_draw : FnScope ["_law_well_here", "_law_many", "_law_digit", "_law_number"] ["_law_well_here", "_law_many"] (defScope s__law_draw) := ⟨rfl, rfl, rfl, by decide +kernel, rfl, by decide +kernel, by decide +kernel⟩
theorem ok_cell {f : Addr} {fd : FuncData} {k : Nat} (F : Fun K "_law_cell_at" "_law_cell_at" s__law_cell_at f fd) (zl : mg "len" = none) : FnOk P w K mg base CX0 (k + 1) f fd ["_law_script", "_law_k"] (spCell K) := by
  refine F.ok sc__law_cell_at (fun vs H Q E h => ?_) (fun cdv A outer s H vs Q E hr h => ?_)
  · obtain ⟨a, ns, k, rfl, _⟩ := h
    rfl
  · obtain ⟨a, ns, k, rfl, hS, q⟩ := h
    refine ⟨_, (pss_cons (ps_if (pt_cmpR op_lt (pv 1) (pe_callB call_len_seq (by rfl) zl PySem.boot_len (pa_cons (pv 0) pa_nil)) (nomark _)) (pss_one (ps_ret (pe_ix ix_list (pv 0) (pv 1) (fun _ _ => rfl)))) pss_nil)
      (pss_one (ps_ret pe_int))), ?_⟩
    refine ⟨_, rfl, _, rfl, a, _, rfl, .inl hS, _, _, rfl, rfl, _, rfl, ite2 (fun c => ?_) (fun c => ?_)⟩
    · have hk : k < ns.length := by
        have := toB c
        rw [List.length_map] at this
        omega
      refine ⟨_, rfl, _, rfl, a, _, k, .int (ns.getD k 0), rfl, rfl, hS, atI_nat ?_, q⟩
      rw [List.getElem?_map, List.getElem?_eq_getElem hk, List.getD_eq_getElem?_getD, List.getElem?_eq_getElem hk]
      rfl
    · have hk : ¬ k < ns.length := fun z => by
        have := toNB c
        rw [List.length_map] at this
        omega
      have e : ns.getD k 0 = 0 := by
        rw [List.getD_eq_getElem?_getD, List.getElem?_eq_none (by omega)]
        rfl
      rw [e] at q
      exact q
theorem ok_well {f : Addr} {fd : FuncData} {k : Nat} (F : Fun K "_law_well" "_law_well" s__law_well f fd) (zi : mg "int" = none) : FnOk P w K mg base CX0 (k + 1) f fd ["_law_cell"] spWell := by
  refine F.ok sc__law_well (fun vs H Q E h => ?_) (fun cdv A outer s H vs Q E hr h => ?_)
  · obtain ⟨c, rfl, _⟩ := h
    rfl
  · obtain ⟨c, rfl, q⟩ := h
    refine ⟨_, (pss_one (ps_ret (pe_lst (pa_cons (pe_op op_mul (pv 0) (pe_callTy call_int1 (by rfl) zi (by decide +kernel) (pa_cons (pe_cmpR op_ge (pv 0) (pe_op op_pow pe_int pe_int) (nomark _)) pa_nil))) (pa_cons (pe_op op_mod (pv 0) pe_int) (pa_cons pe_int pa_nil)))))), ?_⟩
    refine ⟨_, rfl, _, rfl, _, _, rfl, rfl, ⟨by decide, by decide, by decide⟩, _, _, rfl, rfl, .inr ⟨_, rfl, _, _, rfl, rfl, .inr ?_, ?_⟩⟩
    · split <;> decide
    · refine ⟨_, rfl, _, _, rfl, rfl, (by show (0 : Int) < 2147483647; decide), (by show 3 ≤ sizeLine; decide), fun p hp => ?_⟩
      exact q p hp _ (same_new hp) ⟨_, _, _, upd_same, Int.emod_nonneg _ (by decide), Int.emod_lt_of_pos _ (by decide), Int.le_refl _, Int.le_refl _⟩

theorem ok_draw {f : Addr} {fd : FuncData} {k : Nat} (F : Fun K "_law_draw" "_law_draw" s__law_draw f fd) : FnOk P w K mg base CX0 (k + 1) f fd ["_law_well_here", "_law_many"] spDraw := by
  refine F.ok sc__law_draw (fun vs H Q E h => ?_) (fun cdv A outer s H vs Q E hr h => ?_)
  · obtain ⟨a, c, m, rfl, _⟩ := h
    rfl
  · obtain ⟨a, c, m, rfl, ⟨x, y, z, hw, y0, y1, z0, z1⟩, hc, m0, m1, q⟩ := h
    have fr : ∀ o b, H b = none → (upd H a o) b = none := fun o b hb => by
      rw [upd_ne (fun e => by rw [e, hw] at hb; cases hb)]
      exact hb
    refine ⟨_, (pss_cons (ps_if (pt_cmpR op_gt (pe_ix ix_list (pv 0) pe_int (fun _ _ => rfl)) pe_int (nomark _)) (pss_cons (ps_set (i := 2) sc__law_draw.nd rfl (.inl rfl) (pe_op op_mod (pe_ix ix_list (pv 0) pe_int (fun _ _ => rfl)) (pv 1)))
      (pss_cons (ps_asg (pe_op op_fdivW (pe_ix ix_list (pv 0) pe_int (fun _ _ => rfl)) (pv 1)) (pg_sub (pv 0) pe_int set_list))
      (pss_one (ps_ret (pv 2))))) pss_nil)
      (pss_cons (ps_asg (pe_op op_add (pe_ix ix_list (pv 0) pe_int (fun _ _ => rfl)) pe_int) (pg_sub (pv 0) pe_int set_list))
      (pss_cons (ps_set (i := 3) sc__law_draw.nd rfl (.inl rfl) (pe_op op_mod (pe_op op_pow (pe_op op_add (pe_op op_add (pe_ix ix_list (pv 0) pe_int (fun _ _ => rfl)) (pe_op op_mul pe_int (pe_ix ix_list (pv 0) pe_int (fun _ _ => rfl)))) pe_int) pe_int) pe_int))
      (pss_cons (ps_set (i := 3) sc__law_draw.nd rfl (.inl rfl) (pe_op op_mod (pe_op op_mul (pv 3) (pe_op op_add (pe_op op_fdiv (pv 3) pe_int) pe_int)) pe_int))
      (pss_one (ps_ret (pe_op op_mod (pe_op op_fdiv (pe_op op_mod (pe_op op_mul (pv 3) (pe_op op_add (pe_op op_add (pe_op op_fdiv (pv 3) pe_int) pe_int) (pe_ix ix_list (pv 0) pe_int (fun _ _ => rfl)))) pe_int) pe_int) (pv 1)))))))), ?_⟩
    refine ⟨_, rfl, a, _, 0, .int x, rfl, rfl, SqL.of hw, a0, x, 0, rfl, rfl, _, rfl, ite2 (fun c => ?_) (fun c => ?_)⟩
    · refine ⟨_, rfl, a, _, 0, .int x, rfl, rfl, SqL.of hw, a0, _, rfl, x, m, rfl, rfl, m0, ?_⟩
      refine ⟨_, rfl, a, _, 0, .int x, rfl, rfl, SqL.of hw, a0, _, rfl, x, m, rfl, rfl, wide_div m0 m1 (by decide) (Nat.le_refl _), _, rfl, a, _, 0, 0, rfl, rfl, hw, rfl, ?_⟩
      refine ⟨_, rfl, q _ _ (Int.emod_nonneg _ (by omega)) (Int.emod_lt_of_pos _ m0) SameBut.upd (fr _) ⟨_, _, _, upd_same, y0, y1, z0, by omega⟩⟩
    · refine ⟨_, rfl, a, _, 2, .int z, rfl, rfl, SqL.of hw, a2, z, 1, rfl, rfl, _, rfl, a, _, 2, 2, rfl, rfl, hw, rfl, ?_⟩
      have hw2 : (upd H a (.lst [V.int x, V.int y, V.int (z + 1)])) a = some (.lst [V.int x, V.int y, V.int (z + 1)]) := upd_same
      have n5 : 0 ≤ y + 7919 * (z + 1) + 1 ∧ y + 7919 * (z + 1) + 1 < 18446744073709551616 := by omega
      refine ⟨_, rfl, a, _, 1, .int y, rfl, rfl, SqL.of hw2, a1, _, rfl, a, _, 2, .int (z + 1), rfl, rfl, SqL.of hw2, a2, _, _, rfl, rfl, .inl ⟨by decide, by decide⟩, _, _, rfl, rfl, _, _, rfl, rfl, _, _, rfl, rfl, ⟨by decide, by decide, ?_⟩, _, _, rfl, rfl, (by show (0 : Int) < 2147483629; decide), ?_⟩
      · show (y + 7919 * (z + 1) + 1).natAbs < 18446744073709551616
        omega
      · generalize hn : (y + 7919 * (z + 1) + 1) ^ (3 : Int).toNat % 2147483629 = n
        have n0 : 0 ≤ n := by rw [← hn]; exact Int.emod_nonneg _ (by decide)
        have n1 : n < 2147483629 := by rw [← hn]; exact Int.emod_lt_of_pos _ (by decide)
        refine ⟨_, rfl, _, rfl, _, _, rfl, rfl, ⟨by decide, by decide⟩, _, _, rfl, rfl, _, _, rfl, rfl, .inl ⟨by omega, by omega⟩, _, _, rfl, rfl, (by show (0 : Int) < 2147483587; decide), ?_⟩
        generalize hm : n * (n / 1009 + 69621) % 2147483587 = u
        have u0 : 0 ≤ u := by rw [← hm]; exact Int.emod_nonneg _ (by decide)
        have u1 : u < 2147483587 := by rw [← hm]; exact Int.emod_lt_of_pos _ (by decide)
        refine ⟨_, rfl, _, rfl, _, _, rfl, rfl, ⟨by decide, by decide⟩, _, _, rfl, rfl, _, rfl, a, _, 2, .int (z + 1), rfl, rfl, SqL.of hw2, a2, _, _, rfl, rfl, _, _, rfl, rfl, .inl ⟨by omega, by omega⟩, _, _, rfl, rfl, (by show (0 : Int) < 2147483579; decide), _, _, rfl, rfl, ⟨by decide, by decide⟩, _, rfl, _, _, rfl, rfl, m0, ?_⟩
        exact q _ _ (Int.emod_nonneg _ (by omega)) (Int.emod_lt_of_pos _ m0) SameBut.upd (fr _) ⟨_, _, _, upd_same, y0, y1, by omega, by omega⟩
theorem sc__law_one : FnScope ["_law_well_here", "_law_some"] ["_law_well_here", "_law_some"] (defScope s__law_one) := ⟨rfl, rfl, rfl, by decide +kernel, rfl, by decide +kernel, by decide +kernel⟩
theorem ok__law_one {f : Addr} {fd : FuncData} (F : Fun K "_law_one" "_law_one" s__law_one f fd) (z : Zs mg) (c__law_draw : Cal P w K mg base 1 "_law_draw" ["_law_well_here", "_law_many"] spDraw) : FnOk P w K mg base CX0 2 f fd ["_law_well_here", "_law_some"] spOne := by
  refine F.ok sc__law_one (fun vs H Q E h => ?_) (fun cdv A outer s H vs Q E hr h => ?_)
  · obtain ⟨w1, a, c, us, rfl, _⟩ := h
    rfl
  · obtain ⟨w1, a, c, us, rfl, hw, hc, ne, ha, l0, l1, q⟩ := h
    refine ⟨_, (pss_one (ps_ret (pe_ix ix_list (pv 1) (pe_cal c__law_draw hr (pa_cons (pv 0) (pa_cons (pe_callB call_len_seq (by rfl) z.len PySem.boot_len (pa_cons (pv 1) pa_nil)) pa_nil))) (fun _ _ => rfl)))), ?_⟩
    refine ⟨_, rfl, _, rfl, _, rfl, a, _, rfl, .inl (SqL.of ha), w1, c, _, rfl, hw, by omega, by omega, ?_, fun r H1 r0 r1 d1 f1 w2 => ?_⟩
    · exact Nat.lt_of_le_of_lt (show ((us.length : Int)).natAbs ≤ 1000 by omega) (up (show 1000 < 2 ^ 10 by decide) (by decide))
    · obtain ⟨k, rfl⟩ : ∃ k : Nat, r = k := ⟨r.toNat, by omega⟩
      have hk : k < us.length := by omega
      exact ⟨a, _, _, _, rfl, rfl, SqL.of (d1 _ _ ne ha), atI_nat (List.getElem?_eq_getElem hk), q _ (List.getElem_mem hk) H1 d1 f1 w2⟩
theorem sc__law_low : FnScope ["_law_top", "_law_bottom_here", "_law_one_here", "_law_other"] ["_law_top", "_law_bottom_here"] (defScope s__law_low) := ⟨rfl, rfl, rfl, by decide +kernel, rfl, by decide +kernel, by decide +kernel⟩
theorem ok__law_low {f : Addr} {fd : FuncData} {k : Nat} (F : Fun K "_law_low" "_law_low" s__law_low f fd) (z : Zs mg) : FnOk P w K mg base CX0 (k + 1) f fd ["_law_top", "_law_bottom_here"] spLowP := by
  refine F.ok sc__law_low (fun vs H Q E h => ?_) (fun cdv A outer s H vs Q E hr h => ?_)
  · obtain ⟨t, b, rfl, _⟩ := h
    rfl
  · obtain ⟨t, b, rfl, hb, hl, q⟩ := h
    refine ⟨_, (pss_cons (ps_par (i := 2) (j := 3) (by rfl) sc__law_low.nd rfl rfl (by decide) rfl rfl (pa_cons (pe_callB call_abs (by rfl) z.abs (by decide +kernel) (pa_cons (pv 0) pa_nil)) (pa_cons (pv 1) pa_nil)) (by rfl))
      (pss_cons (ps_while PassesOwn.never (pt_cmpR op_gt (pv 3) pe_int (nomark _)) (pss_one (ps_par (i := 2) (j := 3) (by rfl) sc__law_low.nd rfl rfl (by decide) rfl rfl (pa_cons (pv 3) (pa_cons (pe_op op_mod (pv 2) (pv 3)) pa_nil)) (by rfl))))
      (pss_one (ps_ret (pe_tup (pa_cons (pe_op op_fdivW (pv 0) (pv 2)) (pa_cons (pe_op op_fdivW (pv 1) (pv 2)) pa_nil))))))), ?_⟩
    have g0 := gI_pos (t := t) (b := b) (by omega)
    have g1 : (gI t b).natAbs < 2 ^ 4000 := Nat.lt_of_le_of_lt (gI_le (by omega)) hl
    refine ⟨_, rfl, _, rfl, _, rfl, _, _, rfl, ?_⟩
    dsimp only [gName, tSeq]
    refine while_by (fun σ H' => H' = H ∧ ∃ m n : Nat, σ = [some (.int t), some (.int b), some (.int (m : Int)), some (.int (n : Int))] ∧ Nat.gcd m n = Int.gcd t b)
      (fun σ _ => match σ with | [_, _, _, some (.int r)] => r.toNat | _ => 0) ⟨rfl, t.natAbs, b.natAbs, ?_, rfl⟩ (fun σ H1 hP => ?_) (fun σ H Q Q' m hh => ?_)
    · have e1 : (if t < 0 then -t else t) = (t.natAbs : Int) := by split <;> omega
      have e2 : b = (b.natAbs : Int) := by omega
      show [some (V.int t), some (V.int b), some (V.int (if t < 0 then -t else t)), some (V.int b)] = _
      rw [e1, ← e2]
    · obtain ⟨rfl, m, n, rfl, hg⟩ := hP
      refine ⟨_, rfl, _, _, rfl, rfl, _, rfl, ite2 (fun c => ?_) (fun c => ?_)⟩
      · have hn := toB c
        refine ⟨_, rfl, _, rfl, _, rfl, _, _, rfl, rfl, (by omega), _, _, rfl, ⟨⟨rfl, n, m % n, rfl, ?_⟩, ?_⟩⟩
        · rw [← hg, Nat.gcd_comm n (m % n), ← Nat.gcd_rec n m, Nat.gcd_comm]
        · show ((m : Int) % (n : Int)).toNat < ((n : Int)).toNat
          have := Int.emod_lt_of_pos (m : Int) (show (0 : Int) < n by omega)
          have := Int.emod_nonneg (m : Int) (show (n : Int) ≠ 0 by omega)
          omega
      · have hn := toNB c
        have e0 : n = 0 := by omega
        subst e0
        rw [Nat.gcd_zero_right] at hg
        have e2 : (m : Int) = gI t b := by
          unfold gI
          rw [hg]
        rw [e2]
        refine ⟨_, rfl, _, rfl, _, _, rfl, rfl, wide_div g0 g1 (by decide) (by decide), _, rfl, _, rfl, _, _, rfl, rfl, wide_div g0 g1 (by decide) (by decide), (by show 2 ≤ sizeLine; decide), fun p hp => ?_⟩
        have := q p hp
        rw [← (lowTP hb).1, ← (lowTP hb).2] at this
        exact this
    · obtain ⟨v, e, i, j, e1, e2, kk, ek, hq⟩ := hh
      exact ⟨v, e, i, j, e1, e2, kk, ek, m _ _ hq⟩
theorem sc__law_sum : FnScope ["_law_some", "_law_top", "_law_bottom_here", "_law_one_here", "_law_other"] ["_law_some"] (defScope s__law_sum) := ⟨rfl, rfl, rfl, by decide +kernel, rfl, by decide +kernel, by decide +kernel⟩
theorem ok__law_sum {f : Addr} {fd : FuncData} (F : Fun K "_law_sum" "_law_sum" s__law_sum f fd) (c__law_low : Cal P w K mg base 1 "_law_low" ["_law_top", "_law_bottom_here"] spLowP) : FnOk P w K mg base CX0 2 f fd ["_law_some"] spSumP := by
  refine F.ok sc__law_sum (fun vs H Q E h => ?_) (fun cdv A outer s H vs Q E hr h => ?_)
  · obtain ⟨a, ws, ps, D, rfl, _⟩ := h
    rfl
  · obtain ⟨a, ws, ps, D, rfl, ha, hp0, hD, hDl, hps, hl, q⟩ := h
    refine ⟨_, (pss_cons (ps_asg (pe_tup (pa_cons pe_int (pa_cons pe_int pa_nil))) (pg_tup (by rfl) (pgs_cons (pg_name (i := 1) sc__law_sum.nd rfl (.inl rfl)) (pgs_cons (pg_name (i := 2) sc__law_sum.nd rfl (.inl rfl)) pgs_nil))))
      (pss_cons (ps_for PassesOwn.never rfl (pi_list (pv 0)) (pg_tup (by rfl) (pgs_cons (pg_name (i := 3) sc__law_sum.nd rfl (.inl rfl)) (pgs_cons (pg_name (i := 4) sc__law_sum.nd rfl (.inl rfl)) pgs_nil))) (pss_one (ps_asg (pe_cal c__law_low hr (pa_cons (pe_op op_add (pe_op op_mulW (pv 1) (pv 4)) (pe_op op_mulW (pv 3) (pv 2))) (pa_cons (pe_op op_mulW (pv 2) (pv 4)) pa_nil))) (pg_tup (by rfl) (pgs_cons (pg_name (i := 1) sc__law_sum.nd rfl (.inl rfl)) (pgs_cons (pg_name (i := 2) sc__law_sum.nd rfl (.inl rfl)) pgs_nil))))))
      (pss_one (ps_ret (pe_tup (pa_cons (pv 1) (pa_cons (pv 2) pa_nil))))))), ?_⟩
    have hlen := hp0.len
    refine ⟨(by show 2 ≤ sizeLine; decide), fun p0 hp00 => ⟨p0, _, rfl, SqT.of upd_same, rfl, _, _, rfl, _, _, rfl, rfl, ?_⟩⟩
    have sI := same_new (o := .tup [.int 0, .int 1]) hp00
    refine ⟨_, rfl, a, rfl, ⟨_, SqL.of (sI _ _ ha)⟩, for_list (K := K) (a := a) (xs := ws) (fun i σ H' => Same H H' ∧ ∃ y3 y4 : Option V, σ = [some (.ref a), some (.int (sumR ((ps.take i).map fun p => Rat.divInt p.1 p.2)).num), some (.int ((sumR ((ps.take i).map fun p => Rat.divInt p.1 p.2)).den : Int)), y3, y4]) ⟨sI, none, none, rfl⟩ (fun i σ H' _ hP => SqL.of (hP.1 _ _ ha)) (fun i x σ H' hx hP => ?_) (fun σ H' hP => ?_)⟩
    · obtain ⟨s1, y3, y4, rfl⟩ := hP
      obtain ⟨p, n, o, rfl, hi, hm, hp⟩ := PrL_get hp0 hx
      obtain ⟨o0, oD, nl⟩ := hps _ hm
      have o0 : 0 < o := o0
      have oD : o ∣ D := oD
      have nl : n.natAbs < 2 ^ 1000 := nl
      have sc := sum_sc hD hDl (ps.take i) fun p hp => hps p (List.mem_of_mem_take hp)
      have tl : (ps.take i).length ≤ 100 := by
        rw [List.length_take]
        omega
      have sc2 := sc.mono (C := 2 ^ 2010 - 1) (by
        have h1 : (ps.take i).length * 2 ^ 2000 ≤ 100 * 2 ^ 2000 := Nat.mul_le_mul_right _ tl
        have h2 : 100 * 2 ^ 2000 ≤ 2 ^ 2010 - 1 := by
          rw [show (2010 : Nat) = 10 + 2000 by decide, Nat.pow_add]
          have : 0 < 2 ^ 2000 := Nat.pow_pos (by decide)
          omega
        omega)
      have bq := sc2.bits hD (up hDl (show 1000 ≤ 2010 by decide)) (by have : 0 < 2 ^ 2010 := Nat.pow_pos (by decide); omega)
      have od : o.natAbs < 2 ^ 1000 := Nat.lt_of_le_of_lt (Nat.le_of_dvd (by omega) (Int.natAbs_dvd_natAbs.mpr oD)) hDl
      have dd : ((sumR ((ps.take i).map fun p => Rat.divInt p.1 p.2)).den : Int).natAbs < 2 ^ 1000 := Nat.lt_of_le_of_lt (Nat.le_of_dvd (by omega) (Int.natAbs_dvd_natAbs.mpr sc.den)) hDl
      have e : sumR ((ps.take (i + 1)).map fun p => Rat.divInt p.1 p.2) = sumR ((ps.take i).map fun p => Rat.divInt p.1 p.2) + Rat.divInt n o := by
        rw [List.take_succ, hi, Option.toList_some, List.map_append, sumR_append]
        show _ + (Rat.divInt n o + 0) = _
        grind
      rw [e]
      have pd := plus_div (sumR ((ps.take i).map fun p => Rat.divInt p.1 p.2)) (n := n) o0
      generalize sumR ((ps.take i).map fun p => Rat.divInt p.1 p.2) = sq at *
      refine ⟨p, [.int n, .int o], rfl, SqT.of (s1 _ _ hp), rfl, _, _, rfl, _, _, rfl, rfl, ?_⟩
      have hne : (sq.den : Int) * o ≠ 0 := Int.mul_ne_zero (den_ne sq) (by omega)
      refine ⟨_, rfl, _, rfl, _, _, rfl, rfl, wide_mul bq.1 od (by decide) (by decide) (by decide), _, rfl, _, rfl, _, _, rfl, rfl, wide_mul nl dd (by decide) (by decide) (by decide), _, _, rfl, rfl, _, rfl, _, rfl, _, _, rfl, rfl, wide_mul dd od (by decide) (by decide) (by decide), _, _, rfl, Int.mul_pos (den_ge sq) o0, ?_, fun p2 hp2 => ?_⟩
      · show ((sq.den : Int) * o).natAbs < 2 ^ 4000
        rw [Int.natAbs_mul]
        have : (sq.den : Int).natAbs * o.natAbs < 2 ^ 1000 * 2 ^ 1000 := Nat.mul_lt_mul'' dd od
        rw [← Nat.pow_add] at this
        exact up this (by decide)
      · rw [lowT_num hne, lowB_den hne, pd]
        exact ⟨p2, _, rfl, SqT.of upd_same, rfl, _, _, rfl, _, _, rfl, rfl, s1.trans (same_new hp2), _, _, rfl⟩
    · obtain ⟨s1, y3, y4, rfl⟩ := hP
      rw [hlen, List.take_length]
      refine ⟨_, rfl, _, rfl, (by show 2 ≤ sizeLine; decide), fun p hp => ?_⟩
      exact q p _ (s1.free hp) (s1.trans (same_new hp)) upd_same
theorem sc__law_place : FnScope ["_law_well_here", "_law_kind"] ["_law_well_here", "_law_kind"] (defScope s__law_place) := ⟨rfl, rfl, rfl, by decide +kernel, rfl, by decide +kernel, by decide +kernel⟩
theorem ok__law_place {f : Addr} {fd : FuncData} (F : Fun K "_law_place" "_law_place" s__law_place f fd) (c__law_draw : Cal P w K mg base 1 "_law_draw" ["_law_well_here", "_law_many"] spDraw) (c__law_low : Cal P w K mg base 1 "_law_low" ["_law_top", "_law_bottom_here"] spLowP) : FnOk P w K mg base CX0 2 f fd ["_law_well_here", "_law_kind"] spPlace := by
  refine F.ok sc__law_place (fun vs H Q E h => ?_) (fun cdv A outer s H vs Q E hr h => ?_)
  · obtain ⟨ww, c, kd, rfl, _⟩ := h
    rfl
  · obtain ⟨ww, c, kd, rfl, hw, hc, q⟩ := h
    refine ⟨_, (pss_cons (ps_if (pt_cmpR op_eq (pv 1) pe_int (nomark _)) (pss_one (ps_ret (pe_cal c__law_low hr (pa_cons (pe_op op_sub (pe_cal c__law_draw hr (pa_cons (pv 0) (pa_cons pe_int pa_nil))) pe_int) (pa_cons (pe_op op_add pe_int (pe_cal c__law_draw hr (pa_cons (pv 0) (pa_cons pe_int pa_nil)))) pa_nil))))) pss_nil)
      (pss_one (ps_ret (pe_cal c__law_low hr (pa_cons (pe_op op_add (pe_op op_sub (pe_cal c__law_draw hr (pa_cons (pv 0) (pa_cons (pe_op op_sub (pe_op op_mul pe_int (pe_op op_pow pe_int pe_int)) pe_int) pa_nil))) (pe_op op_pow pe_int pe_int)) pe_int) (pa_cons (pe_op op_add pe_int (pe_cal c__law_draw hr (pa_cons (pv 0) (pa_cons pe_int pa_nil)))) pa_nil)))))), ?_⟩
    have fin : ∀ (t b : Int) (H2 : Hp) (p : Addr), SameBut ww H H2 → WellAt H2 ww (c + 1 + 1) → H2 p = none → t.natAbs ≤ 1000000000 → 1 ≤ b ∧ b ≤ 9 → Q (.ref p) (upd H2 p (.tup [.int (lowT t b), .int (lowB t b)])) := fun t b H2 p dd w2 hp ht hb => q p _ _ (but_free dd hp (w2.ne hp)) (dd.trans (SameBut.of (same_new hp))) ((w2.same (same_new hp)).mono (by omega)) (Fr.low (by omega) rfl upd_same) (place_sc ht hb)
    refine ⟨_, rfl, rfl, _, rfl, ite2 (fun ck => ?_) (fun ck => ?_)⟩
    · refine ⟨_, rfl, ww, c, 7, rfl, hw, by omega, by decide, by decide, fun r1 H1 r10 r11 d1 f1 w1 => ⟨_, _, rfl, rfl, _, rfl, ww, c + 1, 3, rfl, w1, by omega, by decide, by decide, fun r2 H2 r20 r21 d2 f2 w2 => ⟨_, _, rfl, rfl, _, _, rfl, by omega, by omega, fun p hp => ?_⟩⟩⟩
      exact fin _ _ H2 p (d1.trans d2) w2 hp (by omega) (by omega)
    · refine ⟨_, rfl, _, _, rfl, rfl, ⟨by decide, by decide, by decide⟩, _, _, rfl, rfl, .inl ⟨by decide, by decide⟩, _, _, rfl, rfl, ww, c, 1999999999, rfl, hw, by omega, by decide, by decide, fun r1 H1 r10 r11 d1 f1 w1 => ⟨_, _, rfl, rfl, ⟨by decide, by decide, by decide⟩, _, _, rfl, rfl, _, _, rfl, rfl, _, rfl, ww, c + 1, 9, rfl, w1, by omega, by decide, by decide, fun r2 H2 r20 r21 d2 f2 w2 => ⟨_, _, rfl, rfl, _, _, rfl, by omega, by omega, fun p hp => ?_⟩⟩⟩
      have e9 : (10 : Int) ^ (9 : Int).toNat = 1000000000 := by decide
      rw [e9]
      exact fin _ _ H2 p (d1.trans d2) w2 hp (by omega) (by omega)
end
end E1

namespace E1
open PySem PySem.Spec PyProof.Rows L2

theorem frC {H : Hp} {p : Addr} {t b : Int} (h1 : (Rat.divInt t b).num = t) (h2 : ((Rat.divInt t b).den : Int) = b) (h : H p = some (.tup [.int t, .int b])) : Fr H p (Rat.divInt t b) := by
  show H p = _
  rw [h1, h2]
  exact h
theorem sc0 {D : Int} {B : Nat} : Sc D B (Rat.divInt 0 1) := by
  have e : Rat.divInt 0 1 = 0 := by decide +kernel
  rw [e]
  exact .zero
def mulR (xs ys : List Rat) : List Rat := if xs = [] ∨ ys = [] then [] else (List.range (xs.length + ys.length - 1)).map (cv (fn xs) (fn ys))
theorem mulR_fn (xs ys : List Rat) (k : Nat) : fn (mulR xs ys) k = cv (fn xs) (fn ys) k := by
  unfold mulR
  split
  · next h =>
    rw [fn_ge (Nat.zero_le _)]
    symm
    unfold cv
    apply sg_zero
    intro i _
    rcases h with rfl | rfl
    · rw [fn_ge (qs := []) (Nat.zero_le _)]
      grind
    · rw [fn_ge (qs := []) (Nat.zero_le _)]
      grind
  · next h =>
    by_cases c : k < xs.length + ys.length - 1
    · apply fn_lt
      rw [List.getElem?_map, List.getElem?_range c]
      rfl
    · rw [fn_ge (by rw [List.length_map, List.length_range]; omega)]
      symm
      unfold cv
      apply sg_zero
      intro i hi
      by_cases c2 : i < xs.length
      · rw [fn_ge (qs := ys) (by omega)]
        grind
      · rw [fn_ge (qs := xs) (by omega)]
        grind
theorem mulR_len (xs ys : List Rat) : (mulR xs ys).length ≤ xs.length + ys.length := by
  unfold mulR
  split
  · exact Nat.zero_le _
  · rw [List.length_map, List.length_range]
    omega
/-- lists that are multiplied: one bottom for each -/
def Bm (D : Int) (B : Nat) (qs : List Rat) : Prop := D ≠ 0 ∧ D.natAbs < 2 ^ 100 ∧ B < 2 ^ 100 ∧ ∀ q ∈ qs, Sc D B q
def Bw (D : Int) (B : Nat) (qs : List Rat) : Prop := D ≠ 0 ∧ D.natAbs < 2 ^ 900 ∧ B < 2 ^ 900 ∧ ∀ q ∈ qs, Sc D B q
def spMul : Sp := fun vs H Q _ => ∃ (a c : Addr) (xs ys : List Rat) (D E' : Int) (B C : Nat), vs = [.ref a, .ref c] ∧ FrL H a xs ∧ FrL H c ys ∧ Bm D B xs ∧ Bw E' C ys ∧ xs.length ≤ 40 ∧ ys.length ≤ 40 ∧ ∀ p H', H p = none → Same H H' → FrL H' p (mulR xs ys) → Q (.ref p) H'
def jsOf (n m k : Nat) : List Nat := (List.range n).filter fun j => decide (j ≤ k ∧ k < j + m)
def prOf (xs ys : List Rat) (k j : Nat) : Int × Int := ((fn xs j).num * (fn ys (k - j)).num, ((fn xs j).den * (fn ys (k - j)).den : Int))
theorem js_mem {n m k j : Nat} (h : j ∈ jsOf n m k) : j < n ∧ j ≤ k ∧ k < j + m := by
  unfold jsOf at h
  rw [List.mem_filter, List.mem_range, decide_eq_true_eq] at h
  exact h
theorem js_sum (xs ys : List Rat) (k : Nat) : sumR (((jsOf xs.length ys.length k).map (prOf xs ys k)).map fun p => Rat.divInt p.1 p.2) = cv (fn xs) (fn ys) k := by
  rw [List.map_map, ← law_place]
  unfold jsOf
  congr 1
  apply List.map_congr_left
  intro j _
  exact times_q _ _
section
variable {P : Program} {w : World} {K : PySem.W.Frag} {mg : Str → Option Value} {base : Heap}
theorem sc__law_series : FnScope ["_law_well_here", "_law_many", "_law_kind", "_law_k"] ["_law_well_here", "_law_many", "_law_kind"] (defScope s__law_series) := ⟨rfl, rfl, rfl, by decide +kernel, rfl, by decide +kernel, by decide +kernel⟩
theorem ok__law_series {f : Addr} {fd : FuncData} (F : Fun K "_law_series" "_law_series" s__law_series f fd) (z : Zs mg) (c__law_one : Cal P w K mg base 2 "_law_one" ["_law_well_here", "_law_some"] spOne) (c__law_place : Cal P w K mg base 2 "_law_place" ["_law_well_here", "_law_kind"] spPlace) : FnOk P w K mg base CX0 3 f fd ["_law_well_here", "_law_many", "_law_kind"] spSeries := by
  refine F.ok sc__law_series (fun vs H Q E h => ?_) (fun cdv A outer s H vs Q E hr h => ?_)
  · obtain ⟨ww, c, kd, n, rfl, _⟩ := h
    rfl
  · obtain ⟨ww, c, kd, n, rfl, hw, hc, hn, q⟩ := h
    refine ⟨_, (pss_one (ps_ret (pe_lc (own := [("_law_k", 3)]) (g := gName 3) (tt := tYes) (te := (tCall spOne [] E0 (tCons (tVar 0) (tCons (tLst (tCons (tTup (tCons (tC (.int 0)) (tCons (tC (.int 1)) tNil))) (tCons (tCall spPlace [] E0 (tCons (tVar 0) (tCons (tVar 2) tNil))) (tCons (tCall spPlace [] E0 (tCons (tVar 0) (tCons (tVar 2) tNil))) tNil)))) tNil)))) (by rfl) sc__law_series.nd (pi_range1 (by rfl) z.range (pa_cons (pv 1) pa_nil)) (blkOk_by (own := [("_law_k", 3)]) (N := ["_law_well_here", "_law_many", "_law_kind", "_law_k"]) (sc := defScope s__law_series) (by decide +kernel)) (fun _ _ _ _ _ => by exact (pg_name (i := 3) sc__law_series.nd rfl (.inl rfl))) (fun _ _ _ _ _ => by exact pts_nil) (fun _ _ _ _ _ => by exact (pe_cal c__law_one hr (pa_cons (pv 0) (pa_cons (pe_lst (pa_cons (pe_tup (pa_cons pe_int (pa_cons pe_int pa_nil))) (pa_cons (pe_cal c__law_place hr (pa_cons (pv 0) (pa_cons (pv 2) pa_nil))) (pa_cons (pe_cal c__law_place hr (pa_cons (pv 0) (pa_cons (pv 2) pa_nil))) pa_nil)))) pa_nil))))))), ?_⟩
    refine ⟨_, rfl, _, rfl, by omega, by omega, fun D hD => ?_⟩
    rw [Int.toNat_natCast]
    have nD := hw.ne hD
    refine lc_range (lo := 0) (n := n) (fun i H' => SameBut ww H H' ∧ WellAt H' ww (c + 5 * i) ∧ ∃ ws qs, H' D = some (.lst ws) ∧ FrsAt H' ws qs ∧ qs.length = i ∧ ∀ q ∈ qs, Sc 2520 2520000000000 q) ⟨SameBut.of (same_new hD), (hw.same (same_new hD)).mono (by omega), [], [], upd_same, .nil, rfl, (fun q h => absurd h List.not_mem_nil)⟩ (fun i H1 hi hP => ?_) (fun H1 hP => ?_)
    · obtain ⟨b1, w1, ws, qs, hD1, hws, hql, hsc⟩ := hP
      have hwl := FrsAt.len hws
      refine ⟨rfl, _, rfl, (by show 2 ≤ sizeLine; decide), fun p0 h0 => ?_⟩
      have s0 := same_new (o := .tup [.int 0, .int 1]) h0
      refine ⟨_, rfl, _, rfl, ww, c + 5 * i, kd, rfl, w1.same s0, by omega, fun p1 q1 H2 hp1 d2 w2 f1 sc1 => ?_⟩
      refine ⟨_, rfl, _, rfl, ww, c + 5 * i + 2, kd, rfl, w2, by omega, fun p2 q2 H3 hp2 d3 w3 f2 sc2 => ?_⟩
      refine ⟨(by show 3 ≤ sizeLine; decide), fun l hl => ?_⟩
      have s4 := same_new (o := .lst [.ref p0, .ref p1, .ref p2]) hl
      have F0 : Fr (upd H3 l (.lst [.ref p0, .ref p1, .ref p2])) p0 (Rat.divInt 0 1) := (((frC (by decide +kernel) (by decide +kernel) upd_same : Fr (upd H1 p0 (.tup [.int 0, .int 1])) p0 (Rat.divInt 0 1)).well d2 (w1.same s0)).well d3 w2).same s4
      have F1 := (f1.well d3 w2).same s4
      have F2 := f2.same s4
      have all : ∀ v ∈ [V.ref p0, .ref p1, .ref p2], ∃ p q, v = .ref p ∧ Fr (upd H3 l (.lst [.ref p0, .ref p1, .ref p2])) p q ∧ Sc 2520 2520000000000 q := fun v hv => by
        simp only [List.mem_cons, List.not_mem_nil, or_false] at hv
        rcases hv with rfl | rfl | rfl
        · exact ⟨_, _, rfl, F0, sc0⟩
        · exact ⟨_, _, rfl, F1, sc1⟩
        · exact ⟨_, _, rfl, F2, sc2⟩
      have w4 := w3.same s4
      refine ⟨ww, l, c + 5 * i + 2 + 2, _, rfl, w4, by omega, w3.ne hl, upd_same, (by show 0 < 3; decide), (by show 3 ≤ 1000; decide), fun v hv H5 d5 _ w5 => ?_⟩
      obtain ⟨p, q', rfl, fq, sq⟩ := all v hv
      have dd : SameBut ww H1 H5 := (SameBut.of s0).trans (d2.trans (d3.trans ((SameBut.of s4).trans d5)))
      have hD5 := dd _ _ nD hD1
      have f5 := fq.well d5 w4
      refine ⟨_, hD5, small1000 (by omega), fun b o nb e => ?_, ?_, ws ++ [.ref p], qs ++ [q'], upd_same, ?_, by rw [List.length_append, hql]; rfl, fun x hx => ?_⟩
      · rw [upd_ne (ne_of_none e hD)]
        exact dd _ _ nb (b1 _ _ nb e)
      · obtain ⟨x, y, zz, e, e1, e2, e3, e4⟩ := w5
        exact ⟨x, y, zz, by rw [upd_ne (Ne.symm nD)]; exact e, e1, e2, e3, by omega⟩
      · have A : FrsAt H5 ws qs := PrsAt.well hws dd w1
        refine FrsAt.app (PrsAt.but A SameBut.upd hD5) (FrsAt.one ?_)
        show (upd H5 D _) p = _
        rw [upd_ne (ne_of f5 hD5 (fun z => nomatch z))]
        exact f5
      · rcases List.mem_append.mp hx with hx | hx
        · exact hsc x hx
        · rw [List.mem_singleton.mp hx]
          exact sq
    · obtain ⟨b1, w1, ws, qs, hD1, hws, hql, hsc⟩ := hP
      exact q D qs H1 hD b1 (w1.mono (by omega)) ⟨ws, hD1, hws⟩ hql hsc
theorem sc__law_bottom : FnScope ["_law_well_here", "_law_many", "_law_kind", "_law_first"] ["_law_well_here", "_law_many", "_law_kind"] (defScope s__law_bottom) := ⟨rfl, rfl, rfl, by decide +kernel, rfl, by decide +kernel, by decide +kernel⟩
theorem ok__law_bottom {f : Addr} {fd : FuncData} (F : Fun K "_law_bottom" "_law_bottom" s__law_bottom f fd) (c__law_one : Cal P w K mg base 2 "_law_one" ["_law_well_here", "_law_some"] spOne) (c__law_place : Cal P w K mg base 2 "_law_place" ["_law_well_here", "_law_kind"] spPlace) (c__law_series : Cal P w K mg base 3 "_law_series" ["_law_well_here", "_law_many", "_law_kind"] spSeries) : FnOk P w K mg base CX0 4 f fd ["_law_well_here", "_law_many", "_law_kind"] spBottom := by
  refine F.ok sc__law_bottom (fun vs H Q E h => ?_) (fun cdv A outer s H vs Q E hr h => ?_)
  · obtain ⟨ww, c, kd, n, rfl, _⟩ := h
    rfl
  · obtain ⟨ww, c, kd, n, rfl, hw, hc, hn0, hn, q⟩ := h
    refine ⟨_, (pss_cons (ps_set (i := 3) sc__law_bottom.nd rfl (.inl rfl) (pe_cal c__law_place hr (pa_cons (pv 0) (pa_cons (pv 2) pa_nil))))
      (C8.pss_cut (ps_if (pt_cmpR op_eq (pe_ix ix_tup (pv 3) pe_int (fun _ _ => rfl)) pe_int (nomark _)) (pss_one (ps_set (i := 3) sc__law_bottom.nd rfl (.inl rfl) (pe_cal c__law_one hr (pa_cons (pv 0) (pa_cons (pe_lst (pa_cons (pe_tup (pa_cons pe_int (pa_cons pe_int pa_nil))) (pa_cons (pe_tup (pa_cons (pe_un un_neg pe_int) (pa_cons pe_int pa_nil))) (pa_cons (pe_tup (pa_cons pe_int (pa_cons pe_int pa_nil))) pa_nil)))) pa_nil))))) pss_nil)
      (pss_one (ps_ret (pe_op op_cat (pe_lst (pa_cons (pv 3) pa_nil)) (pe_cal c__law_series hr (pa_cons (pv 0) (pa_cons (pe_op op_sub (pv 1) pe_int) (pa_cons (pv 2) pa_nil))))))))), ?_⟩
    refine ⟨_, rfl, _, rfl, ww, c, kd, rfl, hw, by omega, fun pf q0 H1 hpf d1 w1 fq sq => ?_⟩
    refine ⟨fun σ H' => ∃ (p : Addr) (q' : Rat), σ = [some (.ref ww), some (.int n), some (.int kd), some (.ref p)] ∧ SameBut ww H H' ∧ WellAt H' ww (c + 10) ∧ Fr H' p q' ∧ Sc 2520 2520000000000 q' ∧ q' ≠ 0, ?_, fun σ H' hM => ?_⟩
    · refine ⟨_, rfl, pf, _, 0, .int q0.num, rfl, rfl, SqT.of fq, a0, rfl, _, rfl, ite2 (fun ck => ?_) (fun ck => ?_)⟩
      · refine ⟨_, rfl, (by show 2 ≤ sizeLine; decide), fun p0 h0 => ?_⟩
        have s0 := same_new (o := .tup [.int 1, .int 1]) h0
        refine ⟨_, rfl, (by show 2 ≤ sizeLine; decide), fun p1 h1 => ?_⟩
        have s1 := same_new (o := .tup [.int (-2), .int 1]) h1
        refine ⟨(by show 2 ≤ sizeLine; decide), fun p2 h2 => ?_⟩
        have s2 := same_new (o := .tup [.int 2, .int 3]) h2
        refine ⟨(by show 3 ≤ sizeLine; decide), fun l hl => ?_⟩
        have s4 := same_new (o := .lst [.ref p0, .ref p1, .ref p2]) hl
        have all : ∀ v ∈ [V.ref p0, .ref p1, .ref p2], ∃ p q, v = .ref p ∧ Fr (upd _ l (.lst [.ref p0, .ref p1, .ref p2])) p q ∧ Sc 2520 2520000000000 q ∧ q ≠ 0 := fun v hv => by
          simp only [List.mem_cons, List.not_mem_nil, or_false] at hv
          rcases hv with rfl | rfl | rfl
          · exact ⟨_, _, rfl, frC (t := 1) (b := 1) (by decide +kernel) (by decide +kernel) (s4 _ _ (s2 _ _ (s1 _ _ upd_same))), ⟨2520, by decide +kernel, by decide⟩, by decide +kernel⟩
          · exact ⟨_, _, rfl, frC (t := -2) (b := 1) (by decide +kernel) (by decide +kernel) (s4 _ _ (s2 _ _ upd_same)), ⟨-5040, by decide +kernel, by decide⟩, by decide +kernel⟩
          · exact ⟨_, _, rfl, frC (t := 2) (b := 3) (by decide +kernel) (by decide +kernel) (s4 _ _ upd_same), ⟨1680, by decide +kernel, by decide⟩, by decide +kernel⟩
        have S4 := s0.trans (s1.trans (s2.trans s4))
        have w4 := w1.same S4
        refine ⟨ww, l, c + 2, _, rfl, w4, by omega, (fun e => by have := w1.same (s0.trans (s1.trans s2)); exact (this.ne hl) e), upd_same, (by show 0 < 3; decide), (by show 3 ≤ 1000; decide), fun v hv H5 d5 _ w5 => ?_⟩
        obtain ⟨p, q1, rfl, fq1, sq1, nq1⟩ := all v hv
        exact ⟨p, q1, rfl, d1.trans ((SameBut.of S4).trans d5), w5.mono (by omega), fq1.well d5 w4, sq1, nq1⟩
      · exact ⟨pf, q0, rfl, d1, w1.mono (by omega), fq, sq, fun z => ck (by rw [z]; rfl)⟩
    obtain ⟨p, q1, rfl, d5, w5, f5, sq1, nq⟩ := hM
    refine ⟨_, rfl, (by show 1 ≤ sizeLine; decide), fun l2 hl2 => ?_⟩
    have s6 := same_new (o := .lst [.ref p]) hl2
    refine ⟨_, rfl, _, rfl, _, _, rfl, rfl, _, rfl, ww, c + 10, kd, n - 1, (by show [V.ref ww, V.int ((n : Int) - 1), V.int kd] = _; rw [show (n : Int) - 1 = ((n - 1 : Nat) : Int) by omega]), w5.same s6, by omega, by omega, fun p7 qs H7 hp7 d7 w7 hF hql hsc => ?_⟩
    obtain ⟨ws, hws, hwl, hfs⟩ := hF.len
    have nl2 := w5.ne hl2
    have hl7 : H7 l2 = some (.lst [.ref p]) := d7 _ _ nl2 upd_same
    refine ⟨l2, p7, _, _, rfl, rfl, hl7, hws, Nat.le_trans (show 1 + ws.length ≤ 1000 by omega) (by decide), fun p8 hp8 => ?_⟩
    have s8 := same_new (o := .lst ([.ref p] ++ ws)) hp8
    have dd : SameBut ww H _ := d5.trans ((SameBut.of s6).trans (d7.trans (SameBut.of s8)))
    have n8 := w7.ne hp8
    refine q p8 (q1 :: qs) _ (but_free (d5.trans ((SameBut.of s6).trans d7)) hp8 n8) dd ((w7.same s8).mono (by omega)) ⟨_, upd_same, ?_⟩ (by rw [List.length_cons, hql]; omega) (fun x hx => ?_) nq
    · exact FrsAt.app (qs := [q1]) (FrsAt.one (((f5.same s6).well d7 (w5.same s6)).same s8)) (PrsAt.same hfs s8)
    · rcases List.mem_cons.mp hx with rfl | hx
      · exact sq1
      · exact hsc x hx
theorem sc__law_multiplied : FnScope ["_law_one_here", "_law_other", "_law_found", "_law_k", "_law_some", "_law_j"] ["_law_one_here", "_law_other"] (defScope s__law_multiplied) := ⟨rfl, rfl, rfl, by decide +kernel, rfl, by decide +kernel, by decide +kernel⟩
theorem ok__law_multiplied {f : Addr} {fd : FuncData} (F : Fun K "_law_multiplied" "_law_multiplied" s__law_multiplied f fd) (z : Zs mg) (c__law_sum : Cal P w K mg base 2 "_law_sum" ["_law_some"] spSumP) : FnOk P w K mg base CX0 3 f fd ["_law_one_here", "_law_other"] spMul := by
  refine F.ok sc__law_multiplied (fun vs H Q E h => ?_) (fun cdv A outer s H vs Q E hr h => ?_)
  · obtain ⟨a, c, xs, ys, D, E', B, C, rfl, _⟩ := h
    rfl
  · obtain ⟨a, c, xs, ys, D, E', B, C, rfl, hx, hy, hB, hC, lx, ly, q⟩ := h
    refine ⟨_, (pss_cons (ps_if (PW.pt (pw_or (pt_cmpR (op_eqD hr.units) (pv 0) (pe_lst pa_nil) (nomark _)) (pw_or1 (pt_cmpR (op_eqD hr.units) (pv 1) (pe_lst pa_nil) (nomark _))))) (pss_one (ps_ret (pe_lst pa_nil))) pss_nil)
      (pss_cons (ps_set (i := 2) sc__law_multiplied.nd rfl (.inl rfl) (pe_lst pa_nil))
      (pss_cons (ps_for PassesOwn.never rfl (pi_range1 (by rfl) z.range (pa_cons (pe_op op_sub (pe_op op_add (pe_callB call_len_seq (by rfl) z.len PySem.boot_len (pa_cons (pv 0) pa_nil)) (pe_callB call_len_seq (by rfl) z.len PySem.boot_len (pa_cons (pv 1) pa_nil))) pe_int) pa_nil)) (pg_name (i := 3) sc__law_multiplied.nd rfl (.inr rfl)) (pss_cons (ps_setLc (i := 4) (own := [("_law_j", 5)]) (g := gName 5) (te := (tVar 5)) (tt := (tTest (tChain (rI0 fun i j => V.bl (decide (i ≤ j))) (rI0 fun i j => V.bl (decide (i < j))) (tC (.int 0)) (tOp (rI0 fun i j => V.int (i - j)) (tVar 3) (tVar 5)) (tCB (fun xs H Q => ∃ p ys, xs = [V.ref p] ∧ (SqL K H p ys ∨ SqT K H p ys) ∧ Q (.int ys.length) H) (tCons (tVar 1) tNil))))) (by rfl) sc__law_multiplied.nd rfl rfl (sw_true rfl rfl rfl (by decide +kernel)) (pi_range1 (by rfl) z.range (pa_cons (pe_callB call_len_seq (by rfl) z.len PySem.boot_len (pa_cons (pv 0) pa_nil)) pa_nil)) (blkOk_by (own := [("_law_j", 5)]) (N := ["_law_one_here", "_law_other", "_law_found", "_law_k", "_law_some", "_law_j"]) (sc := defScope s__law_multiplied) (by decide +kernel)) (fun _ _ _ _ _ => by exact (pg_name (i := 5) sc__law_multiplied.nd rfl (.inl rfl))) (fun _ _ _ _ _ => by exact (pts_one (pt_chain op_le op_lt pe_int (pe_op op_sub (pv 3) (pv 5)) (pe_callB call_len_seq (by rfl) z.len PySem.boot_len (pa_cons (pv 1) pa_nil))))) (fun _ _ _ _ _ => by exact (pv 5)))
      (pss_one (ps_expr (pe_bm PySem.F.plainAttrs_list PySem.F.slot_list_append PySem.F.type_list_append mt_append (pv 2) (pa_cons (pe_cal c__law_sum hr (pa_cons (pe_lc (own := [("_law_j", 5)]) (g := gName 5) (tt := tYes) (te := (tTup (tCons (tOp (rI CMulW fun i j => V.int (i * j)) (tOp (rIxT K) (tOp (rIxL K) (tVar 0) (tVar 5)) (tC (.int 0))) (tOp (rIxT K) (tOp (rIxL K) (tVar 1) (tOp (rI0 fun i j => V.int (i - j)) (tVar 3) (tVar 5))) (tC (.int 0)))) (tCons (tOp (rI CMulW fun i j => V.int (i * j)) (tOp (rIxT K) (tOp (rIxL K) (tVar 0) (tVar 5)) (tC (.int 1))) (tOp (rIxT K) (tOp (rIxL K) (tVar 1) (tOp (rI0 fun i j => V.int (i - j)) (tVar 3) (tVar 5))) (tC (.int 1)))) tNil)))) (by rfl) sc__law_multiplied.nd (pi_list (pv 4)) (blkOk_by (own := [("_law_j", 5)]) (N := ["_law_one_here", "_law_other", "_law_found", "_law_k", "_law_some", "_law_j"]) (sc := defScope s__law_multiplied) (by decide +kernel)) (fun _ _ _ _ _ => by exact (pg_name (i := 5) sc__law_multiplied.nd rfl (.inl rfl))) (fun _ _ _ _ _ => by exact pts_nil) (fun _ _ _ _ _ => by exact (pe_tup (pa_cons (pe_op op_mulW (pe_ix ix_tup (pe_ix ix_list (pv 0) (pv 5) (fun _ _ => rfl)) pe_int (fun _ _ => rfl)) (pe_ix ix_tup (pe_ix ix_list (pv 1) (pe_op op_sub (pv 3) (pv 5)) (fun _ _ => rfl)) pe_int (fun _ _ => rfl))) (pa_cons (pe_op op_mulW (pe_ix ix_tup (pe_ix ix_list (pv 0) (pv 5) (fun _ _ => rfl)) pe_int (fun _ _ => rfl)) (pe_ix ix_tup (pe_ix ix_list (pv 1) (pe_op op_sub (pv 3) (pv 5)) (fun _ _ => rfl)) pe_int (fun _ _ => rfl))) pa_nil))))) pa_nil)) pa_nil))))))
      (pss_one (ps_ret (pv 2)))))), ?_⟩
    obtain ⟨vs, ha, hvl, hv⟩ := hx.len
    obtain ⟨us, hc, hul, hu⟩ := hy.len
    refine ⟨_, rfl, (by show 0 ≤ sizeLine; decide), fun e1 he1 => ?_⟩
    have s1 := same_new (o := .lst []) he1
    refine ⟨.list (xs.map frD), .list (([] : List Rat).map frD), .lst (SqL.of (s1 _ _ ha)) (FrsAt.dp (PrsAt.same hv s1)), .lst (SqL.of upd_same) .nil, frL_shaped _, frL_shaped _, _, rfl, ?_⟩
    rw [frL_eqv]
    by_cases cx : xs = []
    · rw [decide_eq_true cx]
      refine iteT (iteT ⟨(by show 0 ≤ sizeLine; decide), fun R hR => ?_⟩)
      refine q R _ (s1.free hR) (s1.trans (same_new hR)) ⟨[], upd_same, ?_⟩
      unfold mulR
      rw [if_pos (.inl cx)]
      exact .nil
    rw [decide_eq_false cx]
    refine iteF ⟨_, rfl, (by show 0 ≤ sizeLine; decide), fun e2 he2 => ?_⟩
    have s2 := same_new (o := .lst []) he2
    have S2 := s1.trans s2
    refine ⟨.list (ys.map frD), .list (([] : List Rat).map frD), .lst (SqL.of (S2 _ _ hc)) (FrsAt.dp (PrsAt.same hu S2)), .lst (SqL.of upd_same) .nil, frL_shaped _, frL_shaped _, _, rfl, ?_⟩
    rw [frL_eqv]
    by_cases cy : ys = []
    · rw [decide_eq_true cy]
      refine iteT ⟨(by show 0 ≤ sizeLine; decide), fun R hR => ?_⟩
      refine q R _ (S2.free hR) (S2.trans (same_new hR)) ⟨[], upd_same, ?_⟩
      unfold mulR
      rw [if_pos (.inr cy)]
      exact .nil
    rw [decide_eq_false cy]
    refine iteF ⟨(by show 0 ≤ sizeLine; decide), fun R hR => ?_⟩
    have s3 := same_new (o := .lst []) hR
    have S3 := S2.trans s3
    have hRn := S2.free hR
    have x0 : 0 < xs.length := List.length_pos_iff.mpr cx
    have y0 : 0 < ys.length := List.length_pos_iff.mpr cy
    refine ⟨_, rfl, a, _, rfl, .inl (SqL.of (S3 _ _ ha)), _, rfl, c, _, rfl, .inl (SqL.of (S3 _ _ hc)), _, _, rfl, rfl, _, _, rfl, rfl, _, rfl, ?_⟩
    rw [hvl, hul]
    refine ⟨by omega, by omega, ?_⟩
    rw [show ((xs.length : Int) + (ys.length : Int) - 1).toNat = xs.length + ys.length - 1 by omega]
    refine for_range (n := xs.length + ys.length - 1) (fun i σ H' => Same H H' ∧ FrL H' R ((List.range i).map (cv (fn xs) (fn ys))) ∧ ∃ y3 y4 : Option V, σ = [some (.ref a), some (.ref c), some (.ref R), y3, y4, none]) ⟨S3, ⟨[], upd_same, .nil⟩, none, none, rfl⟩ (fun i σ H1 hi hP => ?_) (fun σ H1 hP => ?_)
    · obtain ⟨t1, ⟨rs, hr1, hrs⟩, y3, y4, rfl⟩ := hP
      have hrl := FrsAt.len hrs
      rw [List.length_map, List.length_range] at hrl
      rw [show (0 : Int) + (i : Int) = (i : Int) by omega]
      refine ⟨_, rfl, a, _, rfl, .inl (SqL.of (t1 _ _ ha)), _, rfl, ?_⟩
      rw [hvl]
      refine ⟨by omega, by omega, fun l hl => ?_⟩
      rw [Int.toNat_natCast]
      refine lc_range (lo := 0) (n := xs.length) (fun j H' => Same H1 H' ∧ H' l = some (.lst ((jsOf j ys.length i).map fun m : Nat => V.int (m : Int)))) ⟨same_new hl, upd_same⟩ (fun j H2 hj hP => ?_) (fun H2 hP => ?_)
      · obtain ⟨t2, hl2⟩ := hP
        rw [show (0 : Int) + (j : Int) = (j : Int) by omega]
        have more : jsOf (j + 1) ys.length i = jsOf j ys.length i ++ (if decide (j ≤ i ∧ i < j + ys.length) = true then [j] else []) := by
          unfold jsOf
          rw [List.range_succ, List.filter_append, List.filter_cons]
          rfl
        refine ⟨rfl, _, rfl, _, rfl, _, _, rfl, rfl, _, _, rfl, rfl, _, rfl, ite2 (fun c1 => ?_) (fun c1 => ?_)⟩
        · have d1 := toB c1
          refine ⟨_, rfl, c, _, rfl, .inl (SqL.of (t2 _ _ (t1 _ _ hc))), _, _, rfl, rfl, _, rfl, ?_⟩
          rw [hul]
          refine ite2 (fun c2 => ?_) (fun c2 => ?_)
          · have d2 := toB c2
            refine ⟨_, rfl, _, hl2, ?_, fun b o e => ?_, ?_⟩
            · rw [List.length_map]
              have := List.length_filter_le (fun j => decide (j ≤ i ∧ i < j + ys.length)) (List.range j)
              rw [List.length_range] at this
              exact small1000 (show (jsOf j ys.length i).length ≤ 1000 by unfold jsOf; omega)
            · rw [upd_ne (ne_of_none e hl)]
              exact t2 _ _ e
            · rw [upd_same, more, if_pos (decide_eq_true (by omega)), List.map_append]
              rfl
          · have d2 := toNB c2
            refine ⟨t2, ?_⟩
            rw [hl2, more, if_neg (by rw [decide_eq_true_eq]; omega), List.append_nil]
        · have d1 := toNB c1
          refine ⟨_, rfl, iteF ⟨t2, ?_⟩⟩
          rw [hl2, more, if_neg (by rw [decide_eq_true_eq]; omega), List.append_nil]
      · obtain ⟨t2, hl2⟩ := hP
        have T2 := t1.trans t2
        have hr2 := t2 _ _ hr1
        refine ⟨_, rfl, .inl ⟨rfl, _, SqL.of hr2⟩, _, rfl, l, rfl, ⟨_, SqL.of hl2⟩, fun l3 hl3 => ?_⟩
        generalize hjs : jsOf xs.length ys.length i = js at *
        refine lc_list (K := K) (a := l) (xs := js.map fun m : Nat => V.int (m : Int)) (fun j H' => Same H2 H' ∧ ∃ ws, H' l3 = some (.lst ws) ∧ PrsAt H' ws ((js.take j).map (prOf xs ys i))) ⟨same_new hl3, [], upd_same, .nil⟩ (fun j H' _ hP => SqL.of (hP.1 _ _ hl2)) (fun j x H3 hx hP => ?_) (fun H3 hP => ?_)
        · obtain ⟨t3, ws, hl33, hws⟩ := hP
          rw [List.getElem?_map] at hx
          obtain ⟨m, hm, rfl⟩ := Option.map_eq_some_iff.mp hx
          have mj : m ∈ jsOf xs.length ys.length i := by rw [hjs]; exact List.mem_of_getElem? hm
          obtain ⟨m1, m2, m3⟩ := js_mem mj
          have T3 := T2.trans t3
          obtain ⟨px, hx1, hpx⟩ := FrsAt.fn (PrsAt.same hv T3) m1
          obtain ⟨py, hy1, hpy⟩ := FrsAt.fn (PrsAt.same hu T3) (show i - m < ys.length by omega)
          have em : (i : Int) - (m : Int) = ((i - m : Nat) : Int) := by omega
          have bx := (fn_sc hB.2.2.2 m).bits hB.1 hB.2.1 hB.2.2.1
          have by_ := (fn_sc hC.2.2.2 (i - m)).bits hC.1 hC.2.1 hC.2.2.1
          have ha3 := T3 _ _ ha
          have hc3 := T3 _ _ hc
          refine ⟨rfl, _, rfl, _, rfl, a, _, _, .ref px, rfl, rfl, SqL.of ha3, atI_nat hx1, px, _, 0, .int (fn xs m).num, rfl, rfl, SqT.of hpx, a0, _, rfl, _, rfl, _, rfl, _, _, rfl, rfl, c, _, _, .ref py, rfl, rfl, SqL.of hc3, (by rw [em]; exact atI_nat hy1), py, _, 0, .int (fn ys (i - m)).num, rfl, rfl, SqT.of hpy, a0, _, _, rfl, rfl, wide_mul bx.1 by_.1 (by decide) (by decide) (by decide), ?_⟩
          refine ⟨_, rfl, _, rfl, a, _, _, .ref px, rfl, rfl, SqL.of ha3, atI_nat hx1, px, _, 1, .int (fn xs m).den, rfl, rfl, SqT.of hpx, a1, _, rfl, _, rfl, _, rfl, _, _, rfl, rfl, c, _, _, .ref py, rfl, rfl, SqL.of hc3, (by rw [em]; exact atI_nat hy1), py, _, 1, .int (fn ys (i - m)).den, rfl, rfl, SqT.of hpy, a1, _, _, rfl, rfl, wide_mul bx.2 by_.2 (by decide) (by decide) (by decide), (by show 2 ≤ sizeLine; decide), fun p4 hp4 => ?_⟩
          have s4 := same_new (o := .tup [.int ((fn xs m).num * (fn ys (i - m)).num), .int ((fn xs m).den * (fn ys (i - m)).den : Int)]) hp4
          have hwl := hws.len
          have jl := (List.getElem?_eq_some_iff.mp hm).1
          have jsl : js.length ≤ xs.length := by
            rw [← hjs]
            have := List.length_filter_le (fun j => decide (j ≤ i ∧ i < j + ys.length)) (List.range xs.length)
            rw [List.length_range] at this
            exact this
          refine ⟨_, s4 _ _ hl33, ?_, fun b o e => ?_, ws ++ [.ref p4], upd_same, ?_⟩
          · rw [hwl, List.length_map, List.length_take]
            exact small1000 (by omega)
          · rw [upd_ne (ne_of_none e hl3)]
            exact s4 _ _ (t3 _ _ e)
          · rw [List.take_succ, hm, Option.toList_some, List.map_append]
            refine PrsAt.app ((hws.same s4).but SameBut.upd (s4 _ _ hl33)) (.cons ?_ .nil)
            rw [upd_ne (fun z => by rw [z, hl33] at hp4; cases hp4)]
            exact upd_same
        · obtain ⟨t3, ws, hl33, hws⟩ := hP
          rw [List.length_map, List.take_length] at hws
          have T3 := T2.trans t3
          have jsl : js.length ≤ xs.length := by
            rw [← hjs]
            have := List.length_filter_le (fun j => decide (j ≤ i ∧ i < j + ys.length)) (List.range xs.length)
            rw [List.length_range] at this
            exact this
          refine ⟨l3, ws, _, D * E', rfl, hl33, hws, Int.mul_ne_zero hB.1 hC.1, ?_, fun p hp => ?_, by rw [List.length_map]; omega, fun p5 H5 hp5 s5 hF => ?_⟩
          · rw [Int.natAbs_mul]
            have : D.natAbs * E'.natAbs < 2 ^ 100 * 2 ^ 900 := Nat.mul_lt_mul'' hB.2.1 hC.2.1
            rw [← Nat.pow_add] at this
            exact up this (by decide)
          · obtain ⟨m, hm, rfl⟩ := List.mem_map.mp hp
            have sx := fn_sc hB.2.2.2 m
            have sy := fn_sc hC.2.2.2 (i - m)
            refine ⟨Int.mul_pos (den_ge _) (den_ge _), Int.mul_dvd_mul sx.den sy.den, ?_⟩
            show ((fn xs m).num * (fn ys (i - m)).num).natAbs < 2 ^ 1000
            rw [Int.natAbs_mul]
            have bx := sx.bits hB.1 hB.2.1 hB.2.2.1
            have by_ := sy.bits hC.1 hC.2.1 hC.2.2.1
            have : (fn xs m).num.natAbs * (fn ys (i - m)).num.natAbs < 2 ^ 100 * 2 ^ 900 := Nat.mul_lt_mul'' bx.1 by_.1
            rw [← Nat.pow_add] at this
            exact up this (by decide)
          · rw [← hjs, js_sum] at hF
            have hr5 := s5 _ _ (t3 _ _ hr2)
            refine ⟨R, rs, _, rfl, rfl, hr5, small1000 (by omega), fun b o e => ?_, ⟨rs ++ [.ref p5], upd_same, ?_⟩, _, _, rfl⟩
            · rw [upd_ne (ne_of_none e hRn)]
              exact s5 _ _ (T3 _ _ e)
            · rw [List.range_succ, List.map_append]
              refine FrsAt.app (PrsAt.but (PrsAt.same hrs (t2.trans (t3.trans s5))) SameBut.upd hr5) (FrsAt.one ?_)
              show (upd H5 R _) p5 = _
              rw [upd_ne (ne_of hF hr5 (fun z => nomatch z))]
              exact hF
    · obtain ⟨t1, hF, y3, y4, rfl⟩ := hP
      refine ⟨_, rfl, q R H1 hRn t1 ?_⟩
      unfold mulR
      rw [if_neg (fun h => h.elim cx cy)]
      exact hF
end
end E1

namespace E1
open PySem PySem.Spec PyProof.Rows L2

def spNo : Sp := fun _ _ _ _ => False
def spPlT : Sp := fun vs H Q _ => ∃ (p : Addr) (q : Rat), vs = [.ref p] ∧ Fr H p q ∧ ((q.den : Int)).natAbs < 2 ^ 4000 ∧ ∀ H', Same H H' → Q (.bl true) H'
def spPlL : Sp := fun vs H Q _ => ∃ (a : Addr) (qs : List Rat), vs = [.ref a] ∧ FrL H a qs ∧ qs.length ≤ 1000 ∧ (∀ q ∈ qs, ((q.den : Int)).natAbs < 2 ^ 4000) ∧ ∀ H', Same H H' → Q (.bl true) H'
theorem low_self (q : Rat) : lowT q.num q.den = q.num ∧ lowB q.num q.den = (q.den : Int) := by
  rw [← (lowTP (t := q.num) (den_ge q)).1, ← (lowTP (t := q.num) (den_ge q)).2, q_gcd, Int.ediv_one, Int.ediv_one]
  exact ⟨rfl, rfl⟩
section
variable {P : Program} {w : World} {K : PySem.W.Frag} {mg : Str → Option Value} {base : Heap}
theorem sc__law_plain : FnScope ["_law_told", "_law_one_here"] ["_law_told"] (defScope s__law_plain) := ⟨rfl, rfl, rfl, by decide +kernel, rfl, by decide +kernel, by decide +kernel⟩
theorem ok_plainN {f : Addr} {fd : FuncData} {k : Nat} (F : Fun K "_law_plain" "_law_plain" s__law_plain f fd) : FnOk P w K mg base CX0 (k + 1) f fd ["_law_told"] spNo := by
  refine F.ok sc__law_plain (fun vs H Q E h => ?_) (fun cdv A outer s H vs Q E hr h => ?_)
  · exact False.elim h
  · exact False.elim h
theorem ok_plainT {f : Addr} {fd : FuncData} (F : Fun K "_law_plain" "_law_plain" s__law_plain f fd) (z : Zs mg) (c__law_plain : Cal P w K mg base 1 "_law_plain" ["_law_told"] spNo) (c__law_low : Cal P w K mg base 1 "_law_low" ["_law_top", "_law_bottom_here"] spLowP) : FnOk P w K mg base CX0 2 f fd ["_law_told"] spPlT := by
  refine F.ok sc__law_plain (fun vs H Q E h => ?_) (fun cdv A outer s H vs Q E hr h => ?_)
  · obtain ⟨p, q, rfl, _⟩ := h
    rfl
  · obtain ⟨p, q, rfl, ha, hl, k⟩ := h
    refine ⟨_, (pss_cons (ps_if (pt_val (pe_callB call_isi (by rfl) z.isinstance (by decide +kernel) (pa_cons (pv 0) (pa_cons (pe_bltn (v := .ty "list") (by rfl) z.list (by decide +kernel) rfl) pa_nil)))) (pss_one (ps_ret (pe_callB (cr_all rfl) (by rfl) z.all (by decide +kernel) (pa_cons (pe_lc (own := [("_law_one_here", 1)]) (g := gName 1) (tt := tYes) (te := (tCall spNo [] E0 (tCons (tVar 1) tNil))) (by rfl) sc__law_plain.nd (pi_tup (pv 0)) (blkOk_by (own := [("_law_one_here", 1)]) (N := ["_law_told", "_law_one_here"]) (sc := defScope s__law_plain) (by decide +kernel)) (fun _ _ _ _ _ => by exact (pg_name (i := 1) sc__law_plain.nd rfl (.inl rfl))) (fun _ _ _ _ _ => by exact pts_nil) (fun _ _ _ _ _ => by exact (pe_cal c__law_plain hr (pa_cons (pv 1) pa_nil)))) pa_nil)))) pss_nil)
      (pss_cons (ps_if (PW.pt (pw_or (pt_not (pt_val (pe_callB call_isi (by rfl) z.isinstance (by decide +kernel) (pa_cons (pv 0) (pa_cons (pe_bltn (v := .ty "tuple") (by rfl) z.tuple (by decide +kernel) rfl) pa_nil))))) (pw_or1 (pt_cmpR op_ne (pe_callB call_len_seq (by rfl) z.len PySem.boot_len (pa_cons (pv 0) pa_nil)) pe_int (nomark _))))) (pss_one (ps_ret pe_bl)) pss_nil)
      (pss_cons (ps_if (pt_not (pt_val (pe_callB (cr_all rfl) (by rfl) z.all (by decide +kernel) (pa_cons (pe_lc (own := [("_law_one_here", 1)]) (g := gName 1) (tt := tYes) (te := tAndV (tCB (rIsi K) (tCons (tVar 1) (tCons (tC (.ty "int")) tNil))) (tNotV (tCB (rIsi K) (tCons (tVar 1) (tCons (tC (.ty "bool")) tNil))))) (by rfl) sc__law_plain.nd (pi_tup (pv 0)) (blkOk_by (own := [("_law_one_here", 1)]) (N := ["_law_told", "_law_one_here"]) (sc := defScope s__law_plain) (by decide +kernel)) (fun _ _ _ _ _ => by exact (pg_name (i := 1) sc__law_plain.nd rfl (.inl rfl))) (fun _ _ _ _ _ => by exact pts_nil) (fun _ _ _ _ _ => by exact (pe_and (pe_callB call_isi (by rfl) z.isinstance (by decide +kernel) (pa_cons (pv 1) (pa_cons (pe_bltn (v := .ty "int") (by rfl) z.int (by decide +kernel) rfl) pa_nil))) (pe_one (pe_not (pe_callB call_isi (by rfl) z.isinstance (by decide +kernel) (pa_cons (pv 1) (pa_cons (pe_bltn (v := .ty "bool") (by rfl) z.bool (by decide +kernel) rfl) pa_nil)))))))) pa_nil)))) (pss_one (ps_ret pe_bl)) pss_nil)
      (pss_one (ps_ret (pe_and (pe_cmpR op_gt (pe_ix ix_tup (pv 0) pe_int (fun _ _ => rfl)) pe_int (nomark _)) (pe_one (pe_cmpR (op_eqD hr.units) (pe_cal c__law_low hr (pa_cons (pe_ix ix_tup (pv 0) pe_int (fun _ _ => rfl)) (pa_cons (pe_ix ix_tup (pv 0) pe_int (fun _ _ => rfl)) pa_nil))) (pv 0) (nomark _))))))))), ?_⟩
    refine ⟨_, rfl, _, .ty "list", _, _, false, rfl, .ty _, .base (.tup ha), kit_ty (by decide +kernel), _, rfl, iteF ?_⟩
    refine ⟨_, rfl, _, .ty "tuple", _, _, true, rfl, .ty _, .base (.tup ha), kit_ty (by decide +kernel), _, rfl, iteF ⟨_, rfl, p, _, rfl, .inr (SqT.of ha), rfl, _, rfl, iteF ?_⟩⟩
    refine ⟨_, rfl, p, rfl, ⟨_, SqT.of ha⟩, fun D hD => lc_tup (K := K) (a := p) (xs := [.int q.num, .int (q.den : Int)]) (fun i H' => Same H H' ∧ H' D = some (.lst (List.replicate i (V.bl true)))) ⟨same_new hD, upd_same⟩ (fun i H' _ hP => SqT.of (hP.1 _ _ ha)) (fun i x H' hx hP => ?_) (fun H' hP => ?_)⟩
    · obtain ⟨s1, hacc⟩ := hP
      obtain ⟨n, rfl⟩ : ∃ n : Int, x = .int n := by
        have := List.mem_of_getElem? hx
        simp only [List.mem_cons, List.not_mem_nil, or_false] at this
        rcases this with rfl | rfl <;> exact ⟨_, rfl⟩
      have hi : i < 2 := (List.getElem?_eq_some_iff.mp hx).1
      refine ⟨rfl, _, rfl, _, .ty "int", _, _, true, rfl, .ty _, .base (.int _), kit_ty (by decide +kernel), _, rfl, iteT ⟨_, rfl, _, .ty "bool", _, _, false, rfl, .ty _, .base (.int _), kit_ty (by decide +kernel), _, rfl, ?_⟩⟩
      refine ⟨_, hacc, ?_, fun b o e => ?_, ?_⟩
      · rw [List.length_replicate]
        exact small1000 (by omega)
      · rw [upd_ne (ne_of_none e hD)]
        exact s1 _ _ e
      · rw [upd_same, List.replicate_succ']
        rfl
    · obtain ⟨s1, hacc⟩ := hP
      refine ⟨D, List.replicate _ true, rfl, SqL.of (by rw [List.map_replicate]; exact hacc), ?_⟩
      rw [rep_all]
      have ha1 := s1 _ _ ha
      refine ⟨_, rfl, iteF ⟨_, rfl, p, _, 1, .int (q.den : Int), rfl, rfl, SqT.of ha1, a1, _, _, rfl, rfl, _, rfl, ite2 (fun _ => ?_) (fun c => absurd (decide_eq_true (den_ge q)) c)⟩⟩
      refine ⟨_, rfl, p, _, 0, .int q.num, rfl, rfl, SqT.of ha1, a0, _, rfl, p, _, 1, .int (q.den : Int), rfl, rfl, SqT.of ha1, a1, q.num, (q.den : Int), rfl, den_ge q, hl, fun p2 hp2 => ?_⟩
      have s2 := same_new (o := .tup [.int (lowT q.num q.den), .int (lowB q.num q.den)]) hp2
      have f2 : Fr (upd H' p2 (.tup [.int (lowT q.num q.den), .int (lowB q.num q.den)])) p2 q := by
        show (upd H' p2 _) p2 = _
        rw [upd_same, (low_self q).1, (low_self q).2]
      refine ⟨_, rfl, frD q, frD q, f2.dp, Fr.dp (s2 _ _ ha1), frD_shaped _, frD_shaped _, ?_⟩
      rw [frD_eqv, decide_eq_true rfl]
      exact k _ (s1.trans s2)
theorem ok_plainL {f : Addr} {fd : FuncData} (F : Fun K "_law_plain" "_law_plain" s__law_plain f fd) (z : Zs mg) (c__law_plain : Cal P w K mg base 2 "_law_plain" ["_law_told"] spPlT) (c__law_low : Cal P w K mg base 1 "_law_low" ["_law_top", "_law_bottom_here"] spLowP) : FnOk P w K mg base CX0 3 f fd ["_law_told"] spPlL := by
  refine F.ok sc__law_plain (fun vs H Q E h => ?_) (fun cdv A outer s H vs Q E hr h => ?_)
  · obtain ⟨a, qs, rfl, _⟩ := h
    rfl
  · obtain ⟨a, qs, rfl, ⟨vs, ha, hq⟩, hl, hd, k⟩ := h
    refine ⟨_, (pss_cons (ps_if (pt_val (pe_callB call_isi (by rfl) z.isinstance (by decide +kernel) (pa_cons (pv 0) (pa_cons (pe_bltn (v := .ty "list") (by rfl) z.list (by decide +kernel) rfl) pa_nil)))) (pss_one (ps_ret (pe_callB (cr_all rfl) (by rfl) z.all (by decide +kernel) (pa_cons (pe_lc (own := [("_law_one_here", 1)]) (g := gName 1) (tt := tYes) (te := (tCall spPlT [] E0 (tCons (tVar 1) tNil))) (by rfl) sc__law_plain.nd (pi_list (pv 0)) (blkOk_by (own := [("_law_one_here", 1)]) (N := ["_law_told", "_law_one_here"]) (sc := defScope s__law_plain) (by decide +kernel)) (fun _ _ _ _ _ => by exact (pg_name (i := 1) sc__law_plain.nd rfl (.inl rfl))) (fun _ _ _ _ _ => by exact pts_nil) (fun _ _ _ _ _ => by exact (pe_cal c__law_plain hr (pa_cons (pv 1) pa_nil)))) pa_nil)))) pss_nil)
      (pss_cons (ps_if (PW.pt (pw_or (pt_not (pt_val (pe_callB call_isi (by rfl) z.isinstance (by decide +kernel) (pa_cons (pv 0) (pa_cons (pe_bltn (v := .ty "tuple") (by rfl) z.tuple (by decide +kernel) rfl) pa_nil))))) (pw_or1 (pt_cmpR op_ne (pe_callB call_len_seq (by rfl) z.len PySem.boot_len (pa_cons (pv 0) pa_nil)) pe_int (nomark _))))) (pss_one (ps_ret pe_bl)) pss_nil)
      (pss_cons (ps_if (pt_not (pt_val (pe_callB (cr_all rfl) (by rfl) z.all (by decide +kernel) (pa_cons (pe_lc (own := [("_law_one_here", 1)]) (g := gName 1) (tt := tYes) (te := tAndV (tCB (rIsi K) (tCons (tVar 1) (tCons (tC (.ty "int")) tNil))) (tNotV (tCB (rIsi K) (tCons (tVar 1) (tCons (tC (.ty "bool")) tNil))))) (by rfl) sc__law_plain.nd (pi_list (pv 0)) (blkOk_by (own := [("_law_one_here", 1)]) (N := ["_law_told", "_law_one_here"]) (sc := defScope s__law_plain) (by decide +kernel)) (fun _ _ _ _ _ => by exact (pg_name (i := 1) sc__law_plain.nd rfl (.inl rfl))) (fun _ _ _ _ _ => by exact pts_nil) (fun _ _ _ _ _ => by exact (pe_and (pe_callB call_isi (by rfl) z.isinstance (by decide +kernel) (pa_cons (pv 1) (pa_cons (pe_bltn (v := .ty "int") (by rfl) z.int (by decide +kernel) rfl) pa_nil))) (pe_one (pe_not (pe_callB call_isi (by rfl) z.isinstance (by decide +kernel) (pa_cons (pv 1) (pa_cons (pe_bltn (v := .ty "bool") (by rfl) z.bool (by decide +kernel) rfl) pa_nil)))))))) pa_nil)))) (pss_one (ps_ret pe_bl)) pss_nil)
      (pss_one (ps_ret (pe_and (pe_cmpR op_gt (pe_ix ix_tup (pv 0) pe_int (fun _ _ => rfl)) pe_int (nomark _)) (pe_one (pe_cmpR (op_eqD hr.units) (pe_cal c__law_low hr (pa_cons (pe_ix ix_tup (pv 0) pe_int (fun _ _ => rfl)) (pa_cons (pe_ix ix_tup (pv 0) pe_int (fun _ _ => rfl)) pa_nil))) (pv 0) (nomark _))))))))), ?_⟩
    have hlen := FrsAt.len hq
    refine ⟨_, rfl, _, .ty "list", _, _, true, rfl, .ty _, .base (.lst ha), kit_ty (by decide +kernel), _, rfl, iteT ⟨_, rfl, a, rfl, ⟨_, SqL.of ha⟩, fun D hD => lc_list (K := K) (a := a) (xs := vs) (fun i H' => Same H H' ∧ H' D = some (.lst (List.replicate i (V.bl true)))) ⟨same_new hD, upd_same⟩ (fun i H' _ hP => SqL.of (hP.1 _ _ ha)) (fun i x H' hx hP => ?_) (fun H' hP => ?_)⟩⟩
    · obtain ⟨s1, hacc⟩ := hP
      obtain ⟨p, r, rfl, hr', hp⟩ := FrsAt.get hq hx
      have hi := (List.getElem?_eq_some_iff.mp hx).1
      refine ⟨rfl, _, rfl, p, r, rfl, s1 _ _ hp, hd r (List.mem_of_getElem? hr'), fun H2 s2 => ?_⟩
      refine ⟨_, s2 _ _ hacc, ?_, fun b o e => ?_, ?_⟩
      · rw [List.length_replicate]
        exact small1000 (by omega)
      · rw [upd_ne (ne_of_none e hD)]
        exact s2 _ _ (s1 _ _ e)
      · rw [upd_same, List.replicate_succ']
    · obtain ⟨s1, hacc⟩ := hP
      refine ⟨D, List.replicate _ true, rfl, SqL.of (by rw [List.map_replicate]; exact hacc), ?_⟩
      rw [rep_all]
      exact k _ s1
end
end E1

namespace E1
open PySem PySem.Spec PyProof.Rows L2
theorem quo_congr {t t' : List Rat} (b : List Rat) : ∀ n : Nat, (∀ i, i < n → fn t i = fn t' i) → quo t b n = quo t' b n
  | 0, _ => rfl
  | n + 1, h => by
    have ih := quo_congr b n fun i hi => h i (by omega)
    show quo t b n ++ [nxt t b (quo t b n)] = quo t' b n ++ [nxt t' b (quo t' b n)]
    rw [ih]
    unfold nxt
    rw [quo_len, h n (by omega)]
theorem pl_fn (xs ys : List Rat) {n i : Nat} (h : i < n) : fn (pl xs ys n) i = cv (fn xs) (fn ys) i := by
  apply fn_lt
  rw [pl, List.getElem?_map, List.getElem?_range h]
  rfl
/-- the sizes of this law: all over 2520, up to nine figures -/
abbrev M15 : Nat := 2520000000000
abbrev B15 : Nat := 10 * (M15 * M15)
abbrev C15 : Nat := 6 * B15
theorem cv15 {t x : List Rat} (ht : ∀ q ∈ t, Sc 2520 M15 q) (hx : ∀ q ∈ x, Sc 2520 (2 * M15) q) (lt : t.length ≤ 5) (k : Nat) : Sc 6350400 B15 (cv (fn t) (fn x) k) := by
  have each : ∀ n, Sc (2520 * 2520) (M15 * (2 * M15) * min n t.length) (sg (fun i => fn t i * fn x (k - i)) n) := by
    intro n
    induction n with
    | zero => exact .zero
    | succ n ih =>
      show Sc _ _ (sg (fun i => fn t i * fn x (k - i)) n + fn t n * fn x (k - n))
      by_cases c : n < t.length
      · have one := (fn_sc ht n).mul (fn_sc hx (k - n))
        refine (ih.add one).mono ?_
        rw [show min (n + 1) t.length = min n t.length + 1 by omega, Nat.mul_add, Nat.mul_one]
        exact Nat.le_refl _
      · rw [fn_ge (qs := t) (i := n) (by omega)]
        have e : sg (fun i => fn t i * fn x (k - i)) n + 0 * fn x (k - n) = sg (fun i => fn t i * fn x (k - i)) n := by grind
        rw [e]
        exact ih.mono (Nat.mul_le_mul_left _ (by omega))
  refine Sc.mono (D := 6350400) (each (k + 1)) ?_
  have h5 : min (k + 1) t.length ≤ 5 := by omega
  exact Nat.le_trans (Nat.mul_le_mul_left _ h5) (by decide)
/-- what this law asks of lists -/
structure Ok15 (t b x : List Rat) : Prop where
  st : ∀ q ∈ t, Sc 2520 M15 q
  sb : ∀ q ∈ b, Sc 2520 M15 q
  sx : ∀ q ∈ x, Sc 2520 (2 * M15) q
  lt : t.length ≤ 5
  lb : b.length ≤ 4
  lx : x.length ≤ 9
  b0 : fn b 0 ≠ 0
theorem Ok15.rsp {t b x : List Rat} (h : Ok15 t b x) : ∃ β0, Rsp 6350400 β0 B15 C15 x.length (pl t x x.length) b := by
  have sb : ∀ q ∈ b, Sc 6350400 B15 q := fun q hq => Sc.mono (D := 6350400) ((h.sb q hq).scale (k := 2520)) (by decide)
  obtain ⟨β0, e, l⟩ := fn_sc sb 0
  refine ⟨β0, by decide, e, fun z => ?_, l, Nat.le_refl _, by decide, sb, fun q hq => ?_, by decide, by decide, ?_⟩
  · rw [z] at e
    have := h.b0
    have n0 : ((6350400 : Int) : Rat) ≠ 0 := cast_ne (by decide)
    push_cast at e n0
    grind
  · obtain ⟨k, _, rfl⟩ := List.mem_map.mp hq
    exact cv15 h.st h.sx h.lt k
  · have := h.lx
    exact Nat.lt_of_le_of_lt (Nat.pow_le_pow_right (by decide) (show x.length + 1 ≤ 10 by omega)) (by decide +kernel)
def spAnsw : Sp := fun vs H Q _ => ∃ (a c e : Addr) (t b x : List Rat), vs = [.ref a, .ref c, .ref e] ∧ FrL H a t ∧ FrL H c b ∧ FrL H e x ∧ Ok15 t b x ∧ ∀ p H', H p = none → Same H H' → FrL H' p (ansL t b x) → Q (.ref p) H'
def ngOf (b row : List Rat) (k j : Nat) : Int × Int := (0 - (fn b j).num * (fn row (k - j)).num, ((fn b j).den * (fn row (k - j)).den : Int))
theorem ng_q (q r : Rat) : Rat.divInt (0 - q.num * r.num) (q.den * r.den) = 0 - q * r := by
  apply div_is (Int.mul_ne_zero (den_ne q) (den_ne r))
  have a := q_eq q
  have b := q_eq r
  push_cast at *
  grind
theorem ng_sum (b row : List Rat) (k : Nat) : ∀ m, sumR (((List.range' 1 m).map (ngOf b row k)).map fun p => Rat.divInt p.1 p.2) = 0 - sg (fun i => fn b (i + 1) * fn row (k - 1 - i)) m
  | 0 => by
    show (0 : Rat) = 0 - 0
    grind
  | m + 1 => by
    rw [List.range'_concat, List.map_append, List.map_append, sumR_append, ng_sum b row k m]
    show _ + (Rat.divInt (0 - (fn b (1 + 1 * m)).num * (fn row (k - (1 + 1 * m))).num) ((fn b (1 + 1 * m)).den * (fn row (k - (1 + 1 * m))).den : Int) + 0) = 0 - (sg (fun i => fn b (i + 1) * fn row (k - 1 - i)) m + fn b (m + 1) * fn row (k - 1 - m))
    rw [ng_q, show 1 + 1 * m = m + 1 by omega, show k - (m + 1) = k - 1 - m by omega]
    grind
theorem dot_past (b row : List Rat) {m : Nat} (hm : m = min b.length (row.length + 1) - 1) : dotR b.tail row.reverse = sg (fun i => fn b (i + 1) * fn row (row.length - 1 - i)) m := by
  rw [dot_sg, List.length_reverse]
  have e : ∀ n, n ≤ row.length → sg (fun i => fn b.tail i * fn row.reverse i) n = sg (fun i => fn b (i + 1) * fn row (row.length - 1 - i)) n := fun n hn => by
    apply sg_congr
    intro i hi
    rw [fn_tail, fn_rev row (by omega)]
  rw [e _ (Nat.le_refl _)]
  have z := sg_more (fun i => fn b (i + 1) * fn row (row.length - 1 - i)) m (row.length - m) fun i h1 h2 => by
    show fn b (i + 1) * _ = 0
    rw [fn_ge (qs := b) (by omega)]
    grind
  rw [show m + (row.length - m) = row.length by omega] at z
  exact z
theorem sign_q (q r : Rat) (h : r ≠ 0) {s : Int} (hs : s ≠ 0) : Rat.divInt (q.num * r.den * s) (q.den * r.num * s) = q / r := by
  have n0 := num_ne h
  have d := divided_q q r h
  have e := div_q (t := q.num * r.den) (b := q.den * r.num) (Int.mul_ne_zero (den_ne q) n0)
  rw [d] at e
  apply div_is (Int.mul_ne_zero (Int.mul_ne_zero (den_ne q) n0) hs)
  push_cast at *
  grind

section
variable {P : Program} {w : World} {K : PySem.W.Frag} {mg : Str → Option Value} {base : Heap}
theorem sc__law_answers : FnScope ["_law_top", "_law_bottom_here", "_law_come", "_law_found", "_law_k", "_law_j", "_law_some", "_law_one_here", "_law_sign"] ["_law_top", "_law_bottom_here", "_law_come"] (defScope s__law_answers) := ⟨rfl, rfl, rfl, by decide +kernel, rfl, by decide +kernel, by decide +kernel⟩
theorem ok__law_answers {f : Addr} {fd : FuncData} (F : Fun K "_law_answers" "_law_answers" s__law_answers f fd) (z : Zs mg) (c__law_sum : Cal P w K mg base 2 "_law_sum" ["_law_some"] spSumP) (c__law_low : Cal P w K mg base 1 "_law_low" ["_law_top", "_law_bottom_here"] spLowP) : FnOk P w K mg base CX0 3 f fd ["_law_top", "_law_bottom_here", "_law_come"] spAnsw := by
  refine F.ok sc__law_answers (fun vs H Q E h => ?_) (fun cdv A outer s H vs Q E hr h => ?_)
  · obtain ⟨a, c, e, t, b, x, rfl, _⟩ := h
    rfl
  · obtain ⟨a, c, e, t, b, x, rfl, ht, hb, hx, hA, q⟩ := h
    refine ⟨_, (pss_cons (ps_set (i := 3) sc__law_answers.nd rfl (.inl rfl) (pe_lst pa_nil))
      (pss_cons (ps_for PassesOwn.never rfl (pi_range1 (by rfl) z.range (pa_cons (pe_callB call_len_seq (by rfl) z.len PySem.boot_len (pa_cons (pv 2) pa_nil)) pa_nil)) (pg_name (i := 4) sc__law_answers.nd rfl (.inr rfl)) (pss_cons (ps_setLc (i := 6) (own := [("_law_j", 5)]) (g := gName 5) (te := (tTup (tCons (tOp (rI CMulW fun i j => V.int (i * j)) (tOp (rIxT K) (tOp (rIxL K) (tVar 0) (tVar 5)) (tC (.int 0))) (tOp (rIxT K) (tOp (rIxL K) (tVar 2) (tOp (rI0 fun i j => V.int (i - j)) (tVar 4) (tVar 5))) (tC (.int 0)))) (tCons (tOp (rI CMulW fun i j => V.int (i * j)) (tOp (rIxT K) (tOp (rIxL K) (tVar 0) (tVar 5)) (tC (.int 1))) (tOp (rIxT K) (tOp (rIxL K) (tVar 2) (tOp (rI0 fun i j => V.int (i - j)) (tVar 4) (tVar 5))) (tC (.int 1)))) tNil)))) (tt := (tTest (tOp (rI0 fun i j => V.bl (decide (i ≤ j))) (tVar 5) (tVar 4)))) (by rfl) sc__law_answers.nd rfl rfl (sw_true rfl rfl rfl (by decide +kernel)) (pi_range1 (by rfl) z.range (pa_cons (pe_callB call_len_seq (by rfl) z.len PySem.boot_len (pa_cons (pv 0) pa_nil)) pa_nil)) (blkOk_by (own := [("_law_j", 5)]) (N := ["_law_top", "_law_bottom_here", "_law_come", "_law_found", "_law_k", "_law_j", "_law_some", "_law_one_here", "_law_sign"]) (sc := defScope s__law_answers) (by decide +kernel)) (fun _ _ _ _ _ => by exact (pg_name (i := 5) sc__law_answers.nd rfl (.inl rfl))) (fun _ _ _ _ _ => by exact (pts_one (pt_cmpR op_le (pv 5) (pv 4) (nomark _)))) (fun _ _ _ _ _ => by exact (pe_tup (pa_cons (pe_op op_mulW (pe_ix ix_tup (pe_ix ix_list (pv 0) (pv 5) (fun _ _ => rfl)) pe_int (fun _ _ => rfl)) (pe_ix ix_tup (pe_ix ix_list (pv 2) (pe_op op_sub (pv 4) (pv 5)) (fun _ _ => rfl)) pe_int (fun _ _ => rfl))) (pa_cons (pe_op op_mulW (pe_ix ix_tup (pe_ix ix_list (pv 0) (pv 5) (fun _ _ => rfl)) pe_int (fun _ _ => rfl)) (pe_ix ix_tup (pe_ix ix_list (pv 2) (pe_op op_sub (pv 4) (pv 5)) (fun _ _ => rfl)) pe_int (fun _ _ => rfl))) pa_nil)))))
      (pss_cons (ps_for PassesOwn.never rfl (pi_range2 (by rfl) z.range (pa_cons pe_int (pa_cons (pe_callB (call_min2 rfl) (by rfl) z.min (by decide +kernel) (pa_cons (pe_callB call_len_seq (by rfl) z.len PySem.boot_len (pa_cons (pv 1) pa_nil)) (pa_cons (pe_op op_add (pv 4) pe_int) pa_nil))) pa_nil))) (pg_name (i := 5) sc__law_answers.nd rfl (.inl rfl)) (pss_one (ps_expr (pe_bm PySem.F.plainAttrs_list PySem.F.slot_list_append PySem.F.type_list_append mt_append (pv 6) (pa_cons (pe_tup (pa_cons (pe_op op_sub pe_int (pe_op op_mulW (pe_ix ix_tup (pe_ix ix_list (pv 1) (pv 5) (fun _ _ => rfl)) pe_int (fun _ _ => rfl)) (pe_ix ix_tup (pe_ix ix_list (pv 3) (pe_op op_sub (pv 4) (pv 5)) (fun _ _ => rfl)) pe_int (fun _ _ => rfl)))) (pa_cons (pe_op op_mulW (pe_ix ix_tup (pe_ix ix_list (pv 1) (pv 5) (fun _ _ => rfl)) pe_int (fun _ _ => rfl)) (pe_ix ix_tup (pe_ix ix_list (pv 3) (pe_op op_sub (pv 4) (pv 5)) (fun _ _ => rfl)) pe_int (fun _ _ => rfl))) pa_nil))) pa_nil)))))
      (pss_cons (ps_set (i := 7) sc__law_answers.nd rfl (.inl rfl) (pe_cal c__law_sum hr (pa_cons (pv 6) pa_nil)))
      (pss_cons (ps_set (i := 8) sc__law_answers.nd rfl (.inl rfl) (pe_ix ix_list (pe_lst (pa_cons pe_int (pa_cons (pe_un un_neg pe_int) pa_nil))) (pe_callTy call_int1 (by rfl) z.int (by decide +kernel) (pa_cons (pe_cmpR op_lt (pe_ix ix_tup (pe_ix ix_list (pv 1) pe_int (fun _ _ => rfl)) pe_int (fun _ _ => rfl)) pe_int (nomark _)) pa_nil)) (fun _ _ => rfl)))
      (pss_one (ps_expr (pe_bm PySem.F.plainAttrs_list PySem.F.slot_list_append PySem.F.type_list_append mt_append (pv 3) (pa_cons (pe_cal c__law_low hr (pa_cons (pe_op op_mulW (pe_op op_mulW (pe_ix ix_tup (pv 7) pe_int (fun _ _ => rfl)) (pe_ix ix_tup (pe_ix ix_list (pv 1) pe_int (fun _ _ => rfl)) pe_int (fun _ _ => rfl))) (pv 8)) (pa_cons (pe_op op_mulW (pe_op op_mulW (pe_ix ix_tup (pv 7) pe_int (fun _ _ => rfl)) (pe_ix ix_tup (pe_ix ix_list (pv 1) pe_int (fun _ _ => rfl)) pe_int (fun _ _ => rfl))) (pv 8)) pa_nil))) pa_nil)))))))))
      (pss_one (ps_ret (pv 3))))), ?_⟩
    obtain ⟨β0, hR⟩ := hA.rsp
    obtain ⟨vt, ht1, htl, htv⟩ := ht.len
    obtain ⟨vb, hb1, hbl, hbv⟩ := hb.len
    obtain ⟨vx, hx1, hxl, hxv⟩ := hx.len
    have lt := hA.lt
    have lb := hA.lb
    have lx := hA.lx
    have pb := hR.pos
    refine ⟨(by show 0 ≤ sizeLine; decide), fun R hRn => ?_⟩
    have s0 := same_new (o := .lst []) hRn
    refine ⟨_, rfl, e, _, rfl, .inl (SqL.of (s0 _ _ hx1)), _, rfl, ?_⟩
    rw [hxl]
    refine ⟨by omega, by omega, ?_⟩
    rw [Int.toNat_natCast]
    generalize hT : pl t x x.length = T at *
    have hans : ansL t b x = quo T b x.length := by rw [← hT]; rfl
    rw [hans] at q
    refine for_range (n := x.length) (fun i σ H' => Same H H' ∧ FrL H' R (quo T b i) ∧ ∃ y4 y5 y6 y7 y8 : Option V, σ = [some (.ref a), some (.ref c), some (.ref e), some (.ref R), y4, y5, y6, y7, y8]) ⟨s0, ⟨[], upd_same, .nil⟩, none, none, none, none, none, rfl⟩ (fun i σ H1 hi hP => ?_) (fun σ H1 hP => ?_)
    · obtain ⟨s1, ⟨rs, hr1, hrs⟩, y4, y5, y6, y7, y8, rfl⟩ := hP
      have hrl := FrsAt.len hrs
      rw [quo_len] at hrl
      rw [show (0 : Int) + (i : Int) = (i : Int) by omega]
      refine ⟨_, rfl, a, _, rfl, .inl (SqL.of (s1 _ _ ht1)), _, rfl, ?_⟩
      rw [htl]
      refine ⟨by omega, by omega, fun l hl => ?_⟩
      rw [Int.toNat_natCast]
      have jsl : ∀ j, (jsOf j x.length i).length ≤ j := fun j => by
        have := List.length_filter_le (fun m => decide (m ≤ i ∧ i < m + x.length)) (List.range j)
        rw [List.length_range] at this
        exact this
      refine lc_range (lo := 0) (n := t.length) (fun j H' => Same H1 H' ∧ ∃ ws, H' l = some (.lst ws) ∧ PrsAt H' ws ((jsOf j x.length i).map (prOf t x i))) ⟨same_new hl, [], upd_same, .nil⟩ (fun j H2 hj hP => ?_) (fun H2 hP => ?_)
      · obtain ⟨t2, ws, hw, hws⟩ := hP
        rw [show (0 : Int) + (j : Int) = (j : Int) by omega]
        have more : jsOf (j + 1) x.length i = jsOf j x.length i ++ (if decide (j ≤ i ∧ i < j + x.length) = true then [j] else []) := by
          unfold jsOf
          rw [List.range_succ, List.filter_append, List.filter_cons]
          rfl
        have T2 := s1.trans t2
        refine ⟨rfl, _, rfl, _, rfl, _, _, rfl, rfl, _, rfl, ite2 (fun c1 => ?_) (fun c1 => ?_)⟩
        · have d1 := toB c1
          obtain ⟨px, ex1, hpx⟩ := FrsAt.fn (PrsAt.same htv T2) hj
          obtain ⟨py, ey1, hpy⟩ := FrsAt.fn (PrsAt.same hxv T2) (show i - j < x.length by omega)
          have em : (i : Int) - (j : Int) = ((i - j : Nat) : Int) := by omega
          have bx := (fn_sc hA.st j).bits (by decide) (n := 100) (by decide) (by decide)
          have by_ := (fn_sc hA.sx (i - j)).bits (by decide) (n := 100) (by decide) (by decide)
          have ha3 := T2 _ _ ht1
          have hc3 := T2 _ _ hx1
          refine ⟨_, rfl, _, rfl, a, _, _, .ref px, rfl, rfl, SqL.of ha3, atI_nat ex1, px, _, 0, .int (fn t j).num, rfl, rfl, SqT.of hpx, a0, _, rfl, _, rfl, _, rfl, _, _, rfl, rfl, e, _, _, .ref py, rfl, rfl, SqL.of hc3, (by rw [em]; exact atI_nat ey1), py, _, 0, .int (fn x (i - j)).num, rfl, rfl, SqT.of hpy, a0, _, _, rfl, rfl, wide_mul bx.1 by_.1 (by decide) (by decide) (by decide), ?_⟩
          refine ⟨_, rfl, _, rfl, a, _, _, .ref px, rfl, rfl, SqL.of ha3, atI_nat ex1, px, _, 1, .int (fn t j).den, rfl, rfl, SqT.of hpx, a1, _, rfl, _, rfl, _, rfl, _, _, rfl, rfl, e, _, _, .ref py, rfl, rfl, SqL.of hc3, (by rw [em]; exact atI_nat ey1), py, _, 1, .int (fn x (i - j)).den, rfl, rfl, SqT.of hpy, a1, _, _, rfl, rfl, wide_mul bx.2 by_.2 (by decide) (by decide) (by decide), (by show 2 ≤ sizeLine; decide), fun p4 hp4 => ?_⟩
          have s4 := same_new (o := .tup [.int ((fn t j).num * (fn x (i - j)).num), .int ((fn t j).den * (fn x (i - j)).den : Int)]) hp4
          have hwl := hws.len
          rw [List.length_map] at hwl
          have := jsl j
          refine ⟨_, s4 _ _ hw, small1000 (by omega), fun b' o e' => ?_, ws ++ [.ref p4], upd_same, ?_⟩
          · rw [upd_ne (ne_of_none e' hl)]
            exact s4 _ _ (t2 _ _ e')
          · rw [more, if_pos (decide_eq_true (by omega)), List.map_append]
            refine PrsAt.app ((hws.same s4).but SameBut.upd (s4 _ _ hw)) (.cons ?_ .nil)
            rw [upd_ne (fun z => by rw [z, hw] at hp4; cases hp4)]
            exact upd_same
        · have d1 := toNB c1
          refine ⟨t2, ws, hw, ?_⟩
          rw [more, if_neg (by rw [decide_eq_true_eq]; omega), List.append_nil]
          exact hws
      · obtain ⟨t2, ws0, hw0, hws0⟩ := hP
        have T2 := s1.trans t2
        refine ⟨_, rfl, c, _, rfl, .inl (SqL.of (T2 _ _ hb1)), _, rfl, _, _, rfl, rfl, _, _, rfl, ?_⟩
        rw [hbl]
        have em : (if (i : Int) + 1 < (b.length : Int) then (i : Int) + 1 else (b.length : Int)) = ((min b.length (i + 1) : Nat) : Int) := by
          split <;> omega
        rw [em]
        refine ⟨1, _, rfl, ⟨by decide, by decide, by omega, by omega⟩, ?_⟩
        rw [show (((min b.length (i + 1) : Nat) : Int) - 1).toNat = min b.length (i + 1) - 1 by omega]
        generalize hm : min b.length (i + 1) - 1 = m at *
        have pwn := hR.pw (show x.length ≤ x.length + 1 by omega)
        have hrow : ∀ y ∈ quo T b i, Sc (β0 ^ x.length) (C15 ^ x.length) y := hR.row (show i ≤ x.length by omega)
        have bne : β0 ^ x.length ≠ 0 := Int.pow_ne_zero hR.b0
        refine for_range (lo := 1) (n := m) (fun jj σ H' => Same H1 H' ∧ (∃ ws, H' l = some (.lst ws) ∧ PrsAt H' ws ((jsOf t.length x.length i).map (prOf t x i) ++ (List.range' 1 jj).map (ngOf b (quo T b i) i))) ∧ ∃ y5 y7 y8 : Option V, σ = [some (.ref a), some (.ref c), some (.ref e), some (.ref R), some (.int i), y5, some (.ref l), y7, y8]) ⟨t2, ⟨ws0, hw0, by rw [List.range'_zero, List.map_nil, List.append_nil]; exact hws0⟩, _, _, _, rfl⟩ (fun jj σ H3 hjj hP => ?_) (fun σ H3 hP => ?_)
        · obtain ⟨t3, ⟨ws, hw, hws⟩, y5, y7, y8, rfl⟩ := hP
          have T3 := s1.trans t3
          rw [show (1 : Int) + (jj : Int) = ((1 + jj : Nat) : Int) by omega]
          have jb : 1 + jj < b.length := by omega
          have ji : i - (1 + jj) < (quo T b i).length := by rw [quo_len]; omega
          obtain ⟨px, ex1, hpx⟩ := FrsAt.fn (PrsAt.same hbv T3) jb
          obtain ⟨py, ey1, hpy⟩ := FrsAt.fn (PrsAt.same hrs t3) ji
          have em2 : (i : Int) - ((1 + jj : Nat) : Int) = ((i - (1 + jj) : Nat) : Int) := by omega
          have bx := (fn_sc hR.sb (1 + jj)).bits hR.d0 (n := 100) hR.sD hR.sB
          have by_ := (fn_sc hrow (i - (1 + jj))).bits bne (n := 900) pwn.2 pwn.1
          have hb3 := T3 _ _ hb1
          have hr3 := t3 _ _ hr1
          refine ⟨_, rfl, .inl ⟨rfl, _, SqL.of hw⟩, _, rfl, _, rfl, c, _, _, .ref px, rfl, rfl, SqL.of hb3, atI_nat ex1, px, _, 0, .int (fn b (1 + jj)).num, rfl, rfl, SqT.of hpx, a0, _, rfl, _, rfl, _, rfl, _, _, rfl, rfl, R, _, _, .ref py, rfl, rfl, SqL.of hr3, (by rw [em2]; exact atI_nat ey1), py, _, 0, .int (fn (quo T b i) (i - (1 + jj))).num, rfl, rfl, SqT.of hpy, a0, _, _, rfl, rfl, wide_mul bx.1 by_.1 (by decide) (by decide) (by decide), _, _, rfl, rfl, ?_⟩
          refine ⟨_, rfl, _, rfl, c, _, _, .ref px, rfl, rfl, SqL.of hb3, atI_nat ex1, px, _, 1, .int (fn b (1 + jj)).den, rfl, rfl, SqT.of hpx, a1, _, rfl, _, rfl, _, rfl, _, _, rfl, rfl, R, _, _, .ref py, rfl, rfl, SqL.of hr3, (by rw [em2]; exact atI_nat ey1), py, _, 1, .int (fn (quo T b i) (i - (1 + jj))).den, rfl, rfl, SqT.of hpy, a1, _, _, rfl, rfl, wide_mul bx.2 by_.2 (by decide) (by decide) (by decide), (by show 2 ≤ sizeLine; decide), fun p4 hp4 => ?_⟩
          have s4 := same_new (o := .tup [.int (0 - (fn b (1 + jj)).num * (fn (quo T b i) (i - (1 + jj))).num), .int ((fn b (1 + jj)).den * (fn (quo T b i) (i - (1 + jj))).den : Int)]) hp4
          have hwl := hws.len
          rw [List.length_append, List.length_map, List.length_map, List.length_range'] at hwl
          have := jsl t.length
          refine ⟨l, ws, _, rfl, rfl, s4 _ _ hw, small1000 (by omega), fun b' o e' => ?_, ⟨ws ++ [.ref p4], upd_same, ?_⟩, _, _, _, rfl⟩
          · rw [upd_ne (ne_of_none e' hl)]
            exact s4 _ _ (t3 _ _ e')
          · rw [List.range'_concat, List.map_append, ← List.append_assoc]
            refine PrsAt.app ((hws.same s4).but SameBut.upd (s4 _ _ hw)) (.cons ?_ .nil)
            rw [upd_ne (fun z => by rw [z, hw] at hp4; cases hp4), Nat.one_mul]
            exact upd_same
        · obtain ⟨t3, ⟨ws, hw, hws⟩, y5, y7, y8, rfl⟩ := hP
          have T3 := s1.trans t3
          have := jsl t.length
          have Dne : (6350400 : Int) * β0 ^ x.length ≠ 0 := Int.mul_ne_zero (by decide) bne
          refine ⟨_, rfl, l, ws, _, 6350400 * β0 ^ x.length, rfl, hw, hws, Dne, ?_, fun p hp => ?_, by rw [List.length_append, List.length_map, List.length_map, List.length_range']; omega, fun p5 H5 hp5 s5 hF => ?_⟩
          · rw [Int.natAbs_mul]
            have : (6350400 : Int).natAbs * (β0 ^ x.length).natAbs < 2 ^ 100 * 2 ^ 900 := Nat.mul_lt_mul'' hR.sD pwn.2
            rw [← Nat.pow_add] at this
            exact this
          · rcases List.mem_append.mp hp with hp | hp
            · obtain ⟨j, hj, rfl⟩ := List.mem_map.mp hp
              have sx := fn_sc hA.st j
              have sy := fn_sc hA.sx (i - j)
              refine ⟨Int.mul_pos (den_ge _) (den_ge _), Int.dvd_trans (Int.mul_dvd_mul sx.den sy.den) (show (2520 * 2520 : Int) ∣ _ from Int.dvd_mul_right _ _), ?_⟩
              show ((fn t j).num * (fn x (i - j)).num).natAbs < 2 ^ 1000
              rw [Int.natAbs_mul]
              have bx := sx.bits (by decide) (n := 100) (by decide) (by decide)
              have by_ := sy.bits (by decide) (n := 100) (by decide) (by decide)
              have : (fn t j).num.natAbs * (fn x (i - j)).num.natAbs < 2 ^ 100 * 2 ^ 100 := Nat.mul_lt_mul'' bx.1 by_.1
              rw [← Nat.pow_add] at this
              exact up this (by decide)
            · obtain ⟨j, hj, rfl⟩ := List.mem_map.mp hp
              have sx := fn_sc hR.sb j
              have sy := fn_sc hrow (i - j)
              refine ⟨Int.mul_pos (den_ge _) (den_ge _), Int.mul_dvd_mul sx.den sy.den, ?_⟩
              show (0 - (fn b j).num * (fn (quo T b i) (i - j)).num).natAbs < 2 ^ 1000
              rw [Int.zero_sub, Int.natAbs_neg, Int.natAbs_mul]
              have bx := sx.bits hR.d0 (n := 100) hR.sD hR.sB
              have by_ := sy.bits bne (n := 900) pwn.2 pwn.1
              have : (fn b j).num.natAbs * (fn (quo T b i) (i - j)).num.natAbs < 2 ^ 100 * 2 ^ 900 := Nat.mul_lt_mul'' bx.1 by_.1
              rw [← Nat.pow_add] at this
              exact this
          · have eS : sumR (((jsOf t.length x.length i).map (prOf t x i) ++ (List.range' 1 m).map (ngOf b (quo T b i) i)).map fun p => Rat.divInt p.1 p.2) = fn T i - dotR b.tail (quo T b i).reverse := by
              have dp := dot_past b (quo T b i) (m := m) (by rw [quo_len]; exact hm.symm)
              rw [quo_len] at dp
              rw [List.map_append, sumR_append, js_sum, ng_sum, dp, ← hT, pl_fn t x hi]
              grind
            rw [eS] at hF
            obtain ⟨_, hstep2⟩ := hR.step hi
            have pwi := hR.pw (show i + 1 ≤ x.length + 1 by omega)
            have pwi0 := hR.pw (show i ≤ x.length + 1 by omega)
            have DB : (6350400 : Int) * β0 ^ i ≠ 0 := Int.mul_ne_zero (by decide) (Int.pow_ne_zero hR.b0)
            have DL : ((6350400 : Int) * β0 ^ i).natAbs < 2 ^ 1000 := by
              rw [Int.natAbs_mul]
              have : (6350400 : Int).natAbs * (β0 ^ i).natAbs < 2 ^ 100 * 2 ^ 900 := Nat.mul_lt_mul'' hR.sD pwi0.2
              rw [← Nat.pow_add] at this
              exact this
            have bS := hstep2.bits DB (up DL (show 1000 ≤ 1000 by decide)) (up pwi.1 (by decide))
            have eN : nxt T b (quo T b i) = (fn T i - dotR b.tail (quo T b i).reverse) / fn b 0 := by
              unfold nxt
              rw [quo_len]
            generalize fn T i - dotR b.tail (quo T b i).reverse = S at *
            have bb := (fn_sc hR.sb 0).bits hR.d0 (n := 100) hR.sD hR.sB
            have nb0 := num_ne hR.ne
            obtain ⟨sv, hsv, sv0, svp, svb⟩ : ∃ sv : Int, atI [V.int 1, V.int (-1)] (if decide ((fn b 0).num < 0) = true then 1 else 0) = some (V.int sv) ∧ sv ≠ 0 ∧ 0 < (fn b 0).num * sv ∧ sv.natAbs < 2 ^ 1 := by
              by_cases cs : (fn b 0).num < 0
              · rw [decide_eq_true cs, if_pos rfl]
                exact ⟨-1, a1, by decide, by omega, by decide⟩
              · rw [decide_eq_false cs, if_neg (by decide)]
                exact ⟨1, a0, by decide, by omega, by decide⟩
            refine ⟨_, rfl, (by show 2 ≤ sizeLine; decide), fun ps hps => ?_⟩
            have s6 := same_new (o := .lst [.int 1, .int (-1)]) hps
            have X6 := T3.trans (s5.trans s6)
            obtain ⟨pb0, eb0, hpb0⟩ := FrsAt.fn (PrsAt.same hbv X6) pb
            have hF6 := hF.same s6
            have hr6 := s6 _ _ (s5 _ _ (t3 _ _ hr1))
            refine ⟨_, rfl, c, _, 0, .ref pb0, rfl, rfl, SqL.of (X6 _ _ hb1), atI_nat (j := 0) eb0, pb0, _, 0, .int (fn b 0).num, rfl, rfl, SqT.of hpb0, a0, _, _, rfl, rfl, .inr ⟨_, rfl, ps, _, _, .int sv, rfl, rfl, SqL.of upd_same, hsv, ?_⟩⟩
            have m1 : (S.num * ((fn b 0).den : Int)).natAbs < 2 ^ 1100 := by
              rw [Int.natAbs_mul]
              have := Nat.mul_lt_mul'' bS.1 bb.2
              rw [← Nat.pow_add] at this
              exact this
            have m2 : ((S.den : Int) * (fn b 0).num).natAbs < 2 ^ 1100 := by
              rw [Int.natAbs_mul]
              have := Nat.mul_lt_mul'' bS.2 bb.1
              rw [← Nat.pow_add] at this
              exact this
            have m3 : ((S.den : Int) * (fn b 0).num * sv).natAbs < 2 ^ 1101 := by
              rw [Int.natAbs_mul]
              have := Nat.mul_lt_mul'' m2 svb
              rw [← Nat.pow_add] at this
              exact this
            have m4 : 0 < (S.den : Int) * (fn b 0).num * sv := by
              rw [Int.mul_assoc]
              exact Int.mul_pos (den_ge S) svp
            refine ⟨_, rfl, .inl ⟨rfl, _, SqL.of hr6⟩, _, rfl, p5, _, 0, .int S.num, rfl, rfl, SqT.of hF6, a0, _, rfl, c, _, 0, .ref pb0, rfl, rfl, SqL.of (X6 _ _ hb1), atI_nat (j := 0) eb0, pb0, _, 1, .int (fn b 0).den, rfl, rfl, SqT.of hpb0, a1, _, _, rfl, rfl, wide_mul bS.1 bb.2 (by decide) (by decide) (by decide), _, rfl, _, _, rfl, rfl, wide_mul m1 svb (by decide) (by decide) (by decide), _, rfl, p5, _, 1, .int (S.den : Int), rfl, rfl, SqT.of hF6, a1, _, rfl, c, _, 0, .ref pb0, rfl, rfl, SqL.of (X6 _ _ hb1), atI_nat (j := 0) eb0, pb0, _, 0, .int (fn b 0).num, rfl, rfl, SqT.of hpb0, a0, _, _, rfl, rfl, wide_mul bS.2 bb.1 (by decide) (by decide) (by decide), _, rfl, _, _, rfl, rfl, wide_mul m2 svb (by decide) (by decide) (by decide), _, _, rfl, m4, up m3 (by decide), fun p8 hp8 => ?_⟩
            have hF8 := fun G : Hp => Fr.low (H := upd G p8 _) (p := p8) (by omega) (sign_q S (fn b 0) hR.ne sv0) upd_same
            have s8 := fun o => same_new (o := o) hp8
            refine ⟨R, rs, _, rfl, rfl, s8 _ _ _ hr6, small1000 (by omega), fun b' o e' => ?_, ⟨rs ++ [.ref p8], upd_same, ?_⟩, _, _, _, _, _, rfl⟩
            · rw [upd_ne (ne_of_none e' hRn)]
              exact s8 _ _ _ (X6 _ _ e')
            · refine FrsAt.app (PrsAt.but (PrsAt.same (PrsAt.same hrs (t3.trans (s5.trans s6))) (s8 _)) SameBut.upd (s8 _ _ _ hr6)) (FrsAt.one ?_)
              rw [eN]
              show (upd _ R _) p8 = _
              rw [upd_ne (fun z => by rw [z, hr6] at hp8; cases hp8)]
              exact hF8 _
    · obtain ⟨s1, hF, y4, y5, y6, y7, y8, rfl⟩ := hP
      exact ⟨_, rfl, q R H1 hRn s1 hF⟩
end
end E1

namespace E1
open PySem PySem.Spec PyProof.Rows L2
section
variable {X : Cx}
abbrev lamQ (X : Cx) : Str := X.env.qual ++ "<lambda>"
abbrev lamOb (X : Cx) (pr : Arguments) (bd : Expr) (sc : Scope) (nm : Value) (cd : Addr) (ctx : Value) : Obj := PySem.W.kla_obj "<lambda>" (lamQ X) pr bd sc (cloFrom X.env.cells sc.names []) nm cd ctx
/-- the context of the def at g, called from X at state s -/
abbrev gotCx (X : Cx) (Ng : List Str) (qg : Str) (sg : Scope) (g : Addr) (cdg : Value) (s : Shared) (H : Hp) : Cx := cxOf C8.CX0 X.prog X.w X.K X.mg X.base Ng qg sg g cdg X.A X.stack s H C8.E0
/-- a def of the text that is handed a lambda -/
structure GotFn (K : PySem.W.Frag) (mg : Str → Option Value) (x a : Str) (st : Stmt) (Ng : List Str) (g : Addr) (cdg : Value) : Prop where
  gm : mg x = some (.ref g)
  kp : PySem.W.keepIn K (.ref g) = true
  fn : ∃ (oc : Value) (od : Option Addr) (dV kV doc pm ct : Value) (an : Option Addr) (osl : Array (Option Value)),
    K.lookup g = some ⟨oc, od, .func (PySem.W.fnOf x x (defArgs st) (defBody st) (defScope st) dV kV doc pm an cdg ct), osl⟩ ∧ L2.Binds K (PySem.W.fnOf x x (defArgs st) (defBody st) (defScope st) dV kV doc pm an cdg ct) [a] []
  cd : PySem.W.codeIn K cdg x = true
  sc : FnScope Ng [a] (defScope st)
  n0 : Ng[0]? = some a
  vs : Vis (defScope st) a
end
/-! ### lambdas kept in a list: the lambda's object is tracked -/
section
variable {X : Cx} {H : Hp}
/-- at f: the function object ob -/
def LamO (f : Addr) (ob : Obj) : HO := .ext fun h => h.get? f = some ob
theorem lamO_ok {P : Program} {w : World} {H : Hp} {h : Heap} {f : Addr} {ob : Obj} (e : h.get? f = some ob) : ObjOk P w H h f (LamO f ob) := ⟨e, ⟨ob, e⟩, fun _ _ a st => st _ a⟩
theorem lamO_ne {f : Addr} {ob : Obj} (ps : Array Value) : LamO f ob ≠ .tbl ps := fun z => by
  unfold LamO at z
  cases z
theorem lamO_at {P : Program} {w : World} {H : Hp} {h : Heap} {f : Addr} {ob : Obj} (hok : HOk P w H h) (e : H f = some (LamO f ob)) : h.get? f = some ob := (show ObjOk P w H h f (LamO f ob) from hok f _ e).1
/-- a table to which a new code object is written -/
theorem tabs_put {T : List (Addr × Str)} {P c : Addr} {q : Str} {ps : Array Value} {pos : Pos} (hu : ∀ p ∈ T, p.1 = P → p.2 = q) (hT : LamX.Tabs T H) (hP : H P = some (.tbl ps)) (ht : TriplesOk ps.toList) (ha : ∀ (p' : Pos) (cv : Value), codeAmong p' ps.toList = some cv → ∃ c, cv = .ref c ∧ H c = some (LamX.CodeO c q)) (nC : H c = none) :
    LamX.ExtN H (upd (upd H P (.tbl (ps ++ #[rawInt pos.line, rawInt pos.col, .ref c]))) c (LamX.CodeO c q)) ∧ LamX.Tabs T (upd (upd H P (.tbl (ps ++ #[rawInt pos.line, rawInt pos.col, .ref c]))) c (LamX.CodeO c q)) := by
  have stays : LamX.ExtN H (upd (upd H P (.tbl (ps ++ #[rawInt pos.line, rawInt pos.col, .ref c]))) c (LamX.CodeO c q)) := fun b o e n => by
    have bc : b ≠ c := ne_of_none e nC
    have bP : b ≠ P := fun z => by
      subst z
      rw [hP] at e
      exact n ps (Option.some.inj e).symm
    rw [upd_ne bc, upd_ne bP, e]
  refine ⟨stays, fun p hp => ?_⟩
  have eL : (ps ++ #[rawInt pos.line, rawInt pos.col, .ref c]).toList = ps.toList ++ [rawInt pos.line, rawInt pos.col, .ref c] := by simp
  obtain ⟨ps', a1, a2, a3⟩ := hT p hp
  by_cases hb : p.1 = P
  · rw [hu p hp hb, hb]
    have there : (upd (upd H P (.tbl (ps ++ #[rawInt pos.line, rawInt pos.col, .ref c]))) c (LamX.CodeO c q)) P = some (.tbl (ps ++ #[rawInt pos.line, rawInt pos.col, .ref c])) := by
      rw [upd_ne (ne_of_none hP nC)]
      exact upd_same
    have threes : TriplesOk (ps ++ #[rawInt pos.line, rawInt pos.col, .ref c]).toList := eL ▸ PySem.TriplesOk_snoc _ _ _ _ ht
    refine ⟨_, there, threes, fun p' cv hcv => ?_⟩
    rw [eL] at hcv
    rcases LamX.among_app _ ht hcv with z | z
    · obtain ⟨c0, e1, e2⟩ := ha p' cv z
      exact ⟨c0, e1, stays _ _ e2 LamX.codeO_ne⟩
    · exact ⟨c, z, upd_same⟩
  · refine ⟨ps', by rw [upd_ne (ne_of_none a1 nC), upd_ne hb]; exact a1, a2, fun p' cv hcv => ?_⟩
    obtain ⟨c0, e1, e2⟩ := a3 p' cv hcv
    exact ⟨c0, e1, stays _ _ e2 LamX.codeO_ne⟩
/-- what a lambda's text does, in the context of its maker -/
structure LamOk (X : Cx) (k : Nat) (pr : Arguments) (bd : Expr) (sc : Scope) (t : XK → TE) : Prop where
  L : LamX.LamS X.env.scope sc
  hb : ∀ (q : Str) (cl : List (Str × Addr)) (nm cv ctx : Value), bindArgs (PySem.W.kla_fn "<lambda>" q pr bd sc cl nm cv ctx) ⟨[], []⟩ = pure []
  hbd : ∀ (E : XK) (A : Around) (out : List Env) (s : Shared) (H : Hp) (fl cd : Addr), Room k (A.deeper (LamX.lamEnv X sc s.heap.objs.size fl cd)) → PE (LamX.lamCx X A out s H E sc fl cd) bd (t E)
/-- at fl: a lambda made here that does t -/
def IsLam (X : Cx) (k : Nat) (H : Hp) (fl : Addr) (t : XK → TE) : Prop := ∃ (pr : Arguments) (bd : Expr) (sc : Scope) (nm : Value) (cd : Addr) (ctx : Value), LamOk X k pr bd sc t ∧ H fl = some (LamO fl (lamOb X pr bd sc nm cd ctx)) ∧ H cd = some (LamX.CodeO cd (lamQ X))
theorem IsLam.ext {k : Nat} {H H' : Hp} {fl : Addr} {t : XK → TE} (h : IsLam X k H fl t) (e : LamX.ExtN H H') : IsLam X k H' fl t := by
  obtain ⟨pr, bd, sc, nm, cd, ctx, h1, h2, h3⟩ := h
  exact ⟨pr, bd, sc, nm, cd, ctx, h1, e _ _ h2 lamO_ne, e _ _ h3 LamX.codeO_ne⟩
/-- the lambda as a value -/
def tLamV (X : Cx) (T : List (Addr × Str)) (k : Nat) (t : XK → TE) : TE := fun _ H Q => LamX.Tabs T H ∧ ∀ (fl : Addr) (H1 : Hp), LamX.ExtN H H1 → LamX.Tabs T H1 → H fl = none → IsLam X k H1 fl t → Q (.ref fl) H1
theorem pe_lamV {T : List (Addr × Str)} {c P : Addr} {k : Nat} {pr : Arguments} {bd : Expr} {sc : Scope} {t : XK → TE} {lp : Pos} (O : LamOk X k pr bd sc t) (TB : LamX.TabB X.base X.mg c P)
    (hc : X.env.code = .ref c := by rfl) (hm : (P, lamQ X) ∈ T := by exact List.mem_cons_self) (hu : ∀ p ∈ T, p.1 = P → p.2 = lamQ X := by (intro p hp _; cases List.mem_singleton.mp hp; rfl)) (hd : defaultsOf pr X.env = ([], []) := by rfl) :
    PE X (.Lambda pr bd sc lp) (tLamV X T k t) := by
  constructor
  intro pins s σ H Q I ⟨hT, h⟩
  obtain ⟨ps, hP, ht, ha⟩ := hT _ hm
  have hfree := O.L.has I.ok
  have tabHere := show s.heap.get? P = some { cls := .none, data := .fields ps } from I.hok P _ hP
  have give : ∀ (fl cd : Addr) (nm ctx : Value) (H1 : Hp) (s1 : Shared), Inv X pins σ (upd H1 fl (LamO fl (lamOb X pr bd sc nm cd ctx))) s1 → LamX.ExtN H H1 → LamX.Tabs T H1 → H1 fl = none → H fl = none → H1 cd = some (LamX.CodeO cd (lamQ X)) → EP X pins σ Q (.ref fl) s1 := fun fl cd nm ctx H1 s1 I1 e1 T1 n1 n0 h1 => by
    have st : ∀ b o, H1 b = some o → upd H1 fl (LamO fl (lamOb X pr bd sc nm cd ctx)) b = some o := fun b o e => by rw [upd_ne (ne_of_none e n1), e]
    exact ⟨.ref fl, _, I1, rfl, h fl _ (e1.trans (.of st)) (T1.ext st) n0 ⟨pr, bd, sc, nm, cd, ctx, O, upd_same, st _ _ h1⟩⟩
  refine PySem.W.kla_eval hd ?_
  cases hca : codeAmong lp ps.toList with
  | none =>
    refine PySem.W.kla_makeFunction (mg := X.mg) (c := c) (P := P) (ps := ps) (closure_ok hfree) I.ok.glob (I.mod.glob.keeps I.bk) hc (TB.code.keeps I.bk) tabHere ht hca TB.gP (TB.bm.keeps I.bk) fun cd ctx h' tk hx hge hlt hrec htb => ?_
    obtain ⟨c2, oc, vs, t9, e2, hoc, hdc, hvc⟩ := hrec
    cases e2
    have nC : H cd = none := I.hok.fresh hge
    have grown := Nat.le_trans hge (Nat.le_of_lt hlt)
    have I1 := LamX.inv_table (t' := tk) (more := #[rawInt lp.line, rawInt lp.col, .ref cd]) (h' := h') I hP hx htb hge ⟨oc, vs, t9, hoc, hdc, hvc⟩
    obtain ⟨en, T1⟩ := tabs_put (pos := lp) hu hT hP ht ha nC
    refine give h'.objs.size cd ((X.mg "__name__").getD .none) ctx _ _ (I1.laid (t' := tk) (fun b o e => Heap.get?_push_of_some _ e) (Nat.le_refl _) (lamO_ok (Heap.get?_push_size _ rfl))) en T1 (I1.hok.fresh (Nat.le_refl _)) (I.hok.fresh grown) upd_same
  | some cv =>
    obtain ⟨cd, e, hco⟩ := ha lp cv hca
    subst e
    refine PySem.W.kla_makeFunctionHit (mg := X.mg) (c := c) (P := P) (ps := ps) (closure_ok hfree) I.ok.glob (I.mod.glob.keeps I.bk) hc (TB.code.keeps I.bk) tabHere ht hca (TB.bm.keeps I.bk) fun ctx h' tk hx hsz => ?_
    exact give h'.objs.size cd ((X.mg "__name__").getD .none) ctx H _ (I.laid (t' := tk) (fun b o e => Heap.get?_push_of_some _ (hx b o e)) hsz (lamO_ok (Heap.get?_push_size _ rfl))) (.refl H) hT (I.hok.fresh hsz) (I.hok.fresh hsz) hco
end

/-! ### a tracked lambda called by the def that got it, within a comprehension of its maker -/
section
variable {X : Cx}
theorem pe_actT {pins : List (Addr × Obj)} {σ : L2.St} {H : Hp} {s : Shared} {Ng : List Str} {qg : Str} {sg : Scope} {g fl cd : Addr} {cdg nm ctx : Value} {pr : Arguments} {bd : Expr} {sc : Scope} {k i : Nat} {a : Str} {pn : List (Addr × Obj)} {xe : Value → Shared → Prop} {W : WX} {t : XK → TE} {p1 p2 : Pos}
    (I : Inv X pins σ H s) (O : LamOk X k pr bd sc t) (tk : Takes ((gotCx X Ng qg sg g cdg s H).tr pn xe) W) (rm : Room (k + 1) (X.A.deeper (envOfC qg sg s.heap.objs.size g cdg)))
    (hN : Ng[i]? = some a) (hv : Vis sg a) (h1 : (a == ("__debug__" : Str)) = false := by decide) (h2 : (a == ("__classdict__" : Str)) = false := by decide) :
    PE ((gotCx X Ng qg sg g cdg s H).tr pn xe) (.Call (.Name a p1) [] [] p2)
      (fun τ G Q => τ[i]? = some (some (.ref fl)) ∧ G fl = some (LamO fl (lamOb X pr bd sc nm cd ctx)) ∧ G cd = some (LamX.CodeO cd (lamQ X)) ∧ t (WE W τ) σ G Q) := by
  constructor
  rintro pz sz τ G Q J ⟨hτ, hF, hC, ht⟩
  refine wpAny_Call_Name_kw (thn ((pe_var (X := (gotCx X Ng qg sg g cdg s H).tr pn xe) (pos := p1) (i := i) hN hv h1 h2).run pz sz τ G (fun v G' => v = .ref fl ∧ G' = G) J ⟨.ref fl, hτ, rfl, rfl⟩) ?_)
  rintro u s1 ⟨v1, G1, J1, rv, e1, e2⟩
  rw [e1] at rv
  rw [e2] at J1
  obtain rfl : u = Value.ref fl := rv
  have there := lamO_at J1.hok hF
  have body : codeAny (model X.prog X.w) (X.A.deeper (envOfC qg sg s.heap.objs.size g cdg)) (.call (.ref fl) ⟨[], []⟩) (CR (L2.CX X.prog X.w) (envOfC qg sg s.heap.objs.size g cdg :: X.stack) X.prog X.w G s1 Q (WE W τ)) s1 := by
    obtain ⟨⟨oc, vs, t9, c1, c2, c3⟩, _, _⟩ := J1.hok cd _ hC
    refine PySem.W.kla_callFunE rm.depth there rfl O.L.co O.L.gen rfl ⟨cd, oc, vs, t9, rfl, c1, c2, c3⟩ ?_
    rw [O.hb]
    refine wpAny_pure (wpAny_newFunctionEnv (fun y m => (O.L.own y m).2) (fun y m => nomatch m) (fun hp ns sb => ⟨J1.nolimit.fresh _ sb, ?_⟩) O.L.kind)
    have grew : ∀ b o, s1.heap.get? b = some o → hp.get? b = some o := fun b o e => sb.extBut b o (Nat.ne_of_lt (Heap.lt_size e)) (Heap.get?_push_of_some _ e)
    have J2 := LamX.lam_start2 (E := WE W τ) (f := fl) (c' := cd) (tk := s1.toks + ([] : List (Str × Value)).length) I O.L J1.env0 rm.hd (show Un (frs X.stack) [] H G s.heap s1.heap from J1.base) ns grew
    have ran := (O.hbd (WE W τ) _ _ s1 G fl cd (rm.deeper _)).run [] _ _ G Q J2 ht
    refine PySem.W.kla_codeExpr (wpAny_mono ran ?_ fun e s' hq => hq)
    rintro v s' ⟨v', G2, J3, rv, qv⟩
    exact ⟨v', G2, J3.os, J3.bare, J3.base, J3.hok, rv, qv⟩
  refine PySem.W.callWith_F0 ⟨_, _, _, _, there⟩ (wpAny_call (codeAny_mono body ?_))
  intro r s' hq
  match r with
  | .error e => exact passAt tk τ pz G s1 e s' J1 hq
  | .ok (.ret u) => exact J1.after hq
  | .ok .next => exact False.elim hq
  | .ok .brk => exact False.elim hq
  | .ok .cont => exact False.elim hq
end
/-! ### a tracked lambda handed to a def together with one more thing, outside a try -/
section
variable {X : Cx}
/-- a def of the text that is handed a lambda and a thing -/
structure GotTwo (K : PySem.W.Frag) (mg : Str → Option Value) (x a b : Str) (st : Stmt) (Ng : List Str) (g : Addr) (cdg : Value) : Prop where
  gm : mg x = some (.ref g)
  kp : PySem.W.keepIn K (.ref g) = true
  fn : ∃ (oc : Value) (od : Option Addr) (dV kV doc pm ct : Value) (an : Option Addr) (osl : Array (Option Value)),
    K.lookup g = some ⟨oc, od, .func (PySem.W.fnOf x x (defArgs st) (defBody st) (defScope st) dV kV doc pm an cdg ct), osl⟩ ∧ L2.Binds K (PySem.W.fnOf x x (defArgs st) (defBody st) (defScope st) dV kV doc pm an cdg ct) [a, b] []
  cd : PySem.W.codeIn K cdg x = true
  sc : FnScope Ng [a, b] (defScope st)
  n0 : Ng[0]? = some a
  vs : Vis (defScope st) a
/-- the def calls what it got; TT: what it makes of the lambda's reading and of the thing -/
def GivesTwo (X : Cx) (Ng : List Str) (x : Str) (sg : Scope) (g : Addr) (cdg : Value) (bg : List Stmt) (a : Str) (k : Nat) (TT : Addr → Addr → V → (Hp → VK → Prop) → Hp → VK → Prop) : Prop :=
  ∀ (fl cd : Addr) (ob : Obj) (v : V) (s : Shared) (H : Hp) (Q : VK) (tl : Hp → VK → Prop),
    (∀ p1 p2 : Pos, PE (gotCx X Ng x sg g cdg s H).nox (.Call (.Name a p1) [] [] p2) (fun τ G Q => τ[0]? = some (some (.ref fl)) ∧ G fl = some (LamO fl ob) ∧ G cd = some (LamX.CodeO cd (lamQ X)) ∧ tl G Q)) →
    H fl = some (LamO fl ob) → H cd = some (LamX.CodeO cd (lamQ X)) → Room k (X.A.deeper (envOfC x sg s.heap.objs.size g cdg)) → TT fl cd v tl H Q →
    ∃ t, PSs (gotCx X Ng x sg g cdg s H).nox bg t ∧ t { nx := fun _ H' => Q .non H', rt := Q } (L2.start Ng [.ref fl, v]) H
theorem pe_lamTwo {TT : Addr → Addr → V → (Hp → VK → Prop) → Hp → VK → Prop} {x a b : Str} {g : Addr} {k j : Nat} {st : Stmt} {cdg : Value} {Ng : List Str} {e : Expr} {es : List Expr} {tA : TA} {p pos : Pos}
    (G : GotTwo X.K X.mg x a b st Ng g cdg) (hG : GivesTwo X Ng x (defScope st) g cdg (defBody st) a (k + 1) TT) (rm : Room j X.A) (ha : PA X (e :: es) tA)
    (hle : k + 2 ≤ j := by decide) (hg : Gl X x := by rfl) (h0 : (x == ("__debug__" : Str)) = false := by decide) (h1 : (a == ("__debug__" : Str)) = false := by decide) (h2 : (a == ("__classdict__" : Str)) = false := by decide)
    (he : starEach (e :: es) X.env = (false, eval e X.env) :: starEach es X.env := by rfl) (hpl : (backTo pos (starEach es X.env)).any (·.1) = false := by rfl) :
    PE X (.Call (.Name x p) (e :: es) [] pos) (fun σ H Q => tA σ H fun vs H1 => ∃ (fl : Addr) (v : V) (t : TE), vs = [.ref fl, v] ∧ IsLam X k H1 fl (fun _ => t) ∧ ∀ cd, TT fl cd v (t σ) H1 Q) := by
  constructor
  intro pins s σ H Q I h
  obtain ⟨oc, od, dV, kV, doc, pm, ct, an, osl, lk, bnd⟩ := G.fn
  refine wpAny_Call_Name_kw (ld_glob I hg G.gm ?_ h0)
  refine PySem.W.callWith_K (h₀ := X.base) I.ok.mod.kin G.kp (thn (ha.run pos pins s σ H _ I h) ?_) he hpl
  rintro us s1 ⟨vs, H1, I1, r, fl, v, t, rfl, ⟨pr, bd, sc, nm, cd, ctx, O, hF, hC⟩, hh⟩
  refine ⟨I1.kIn, ?_⟩
  cases r with
  | cons r1 r' =>
  cases r' with
  | cons r2 r'' =>
  cases r''
  rename_i u1 u2
  refine wpAny_call (codeAny_mono (LamX.run_ofS (CX := C8.CX0) (k := k + 1) (us := [u1, u2]) (vs := [.ref fl, v]) (Q := Q) (E := C8.E0) lk G.cd G.sc (rm.mono hle) I1.env0 (bnd s1 [u1, u2] I1.kIn rfl) (.cons r1 (.cons r2 .nil)) rfl fun rm' => ?_) ?_)
  · obtain ⟨t', ps', q'⟩ := hG fl cd _ v s1 H1 Q (t σ) (fun p1 p2 => pe_actT (i := 0) (W := fun _ _ _ _ => False) (pn := []) (xe := fun _ _ => False) I1 O LamX.takes0 rm' G.n0 G.vs h1 h2) hF hC rm' (hh cd)
    exact ⟨t', ps'.nox, q'⟩
  · intro r z2 hq
    match r with
    | .error e => exact False.elim (show False from hq)
    | .ok (.ret u) => exact I1.after hq
    | .ok .next => exact False.elim hq
    | .ok .brk => exact False.elim hq
    | .ok .cont => exact False.elim hq
end

end E1

namespace E1
open PySem PySem.Spec PyProof.Rows L2

def TSame (fl cd : Addr) (v : V) (tl : Hp → VK → Prop) (H : Hp) (Q : VK) : Prop := ∃ (d : Addr) (qs : List Rat), v = .ref d ∧ FrL H d qs ∧ qs.length ≤ 900 ∧ (∀ q ∈ qs, ((q.den : Int)).natAbs < 2 ^ 4000) ∧ (∀ G Q', Same H G → (∀ p G', G p = none → Same G G' → FrL G' p qs → Q' (.ref p) G') → tl G Q') ∧ ∀ H', Same H H' → Q (.bl true) H'
section
variable {P : Program} {w : World} {K : PySem.W.Frag} {mg : Str → Option Value} {base : Heap}
theorem sc__law_same : FnScope ["_law_ask", "_law_due", "_law_turn", "_law_told"] ["_law_ask", "_law_due"] (defScope s__law_same) := ⟨rfl, rfl, rfl, by decide +kernel, rfl, by decide +kernel, by decide +kernel⟩
theorem gives_same {X : Cx} {g : Addr} {cdg : Value} {k : Nat} (hk : 3 ≤ k) (z : Zs X.mg) (c__law_plain : Cal X.prog X.w X.K X.mg X.base 3 "_law_plain" ["_law_told"] spPlL) : GivesTwo X ["_law_ask", "_law_due", "_law_turn", "_law_told"] "_law_same" (defScope s__law_same) g cdg (defBody s__law_same) "_law_ask" k TSame := by
  intro fl cd ob v s H Q tl act hF hC hr0 h
  have hr : Room 3 (X.A.deeper (envOfC "_law_same" (defScope s__law_same) s.heap.objs.size g cdg)) := hr0.mono hk
  obtain ⟨d, qs, rfl, hd, hl, hb, ht, q⟩ := h
  refine ⟨_, (pss_cons (ps_for PassesOwn.never rfl (pi_range1 (by rfl) z.range (pa_cons pe_int pa_nil)) (pg_name (i := 2) sc__law_same.nd rfl (.inl rfl)) (pss_cons (ps_set (i := 3) sc__law_same.nd rfl (.inl rfl) (act _ _))
      (pss_cons (ps_if (PW.pt (pw_or (pt_not (pt_val (pe_callB call_isi (by rfl) z.isinstance (by decide +kernel) (pa_cons (pv 3) (pa_cons (pe_bltn (v := .ty "list") (by rfl) z.list (by decide +kernel) rfl) pa_nil))))) (pw_or (pt_cmpR (op_neD hr.units) (pv 3) (pv 1) (nomark _)) (pw_or1 (pt_not (pt_val (pe_cal c__law_plain hr (pa_cons (pv 3) pa_nil)))))))) (pss_one (ps_ret pe_bl)) pss_nil)
      (pss_cons (ps_expr (pe_bm0 PySem.F.plainAttrs_list PySem.F.slot_list_reverse PySem.F.type_list_reverse mt_reverse (pv 3)))
      (pss_one (ps_expr (pe_bm PySem.F.plainAttrs_list PySem.F.slot_list_append PySem.F.type_list_append mt_append (pv 3) (pa_cons pe_int pa_nil))))))))
      (pss_one (ps_ret pe_bl))), ?_⟩
  refine ⟨2, rfl, by decide, by decide, for_range (n := 2) (fun i σ H' => Same H H' ∧ ∃ y2 y3 : Option V, σ = [some (.ref fl), some (.ref d), y2, y3]) ⟨Same.refl _, none, none, rfl⟩ (fun i σ G hi hP => ?_) (fun σ G hP => ?_)⟩
  · obtain ⟨sG, y2, y3, rfl⟩ := hP
    refine ⟨rfl, sG _ _ hF, sG _ _ hC, ht G _ sG fun p G1 hp s1 hp1 => ?_⟩
    have S1 := sG.trans s1
    obtain ⟨vs, e1, len1, f1⟩ := hp1.len
    obtain ⟨ws, e2, len2, f2⟩ := (hd.same S1).len
    refine ⟨_, rfl, _, .ty "list", _, _, true, rfl, .ty _, .base (.lst e1), kit_ty (by decide +kernel), _, rfl, iteF ?_⟩
    refine ⟨_, rfl, _, rfl, .list (qs.map frD), .list (qs.map frD), .lst (SqL.of e1) (FrsAt.dp f1), .lst (SqL.of e2) (FrsAt.dp f2), frL_shaped _, frL_shaped _, _, rfl, ?_⟩
    rw [frL_eqv, decide_eq_true rfl]
    refine iteF ?_
    refine ⟨_, rfl, p, qs, rfl, ⟨vs, e1, f1⟩, by omega, hb, fun G2 s2 => ⟨_, rfl, iteF ?_⟩⟩
    have e3 := s2 _ _ e1
    refine ⟨_, rfl, .inl ⟨rfl, _, SqL.of e3⟩, p, vs, rfl, rfl, e3, ?_⟩
    refine ⟨_, rfl, .inl ⟨rfl, _, SqL.of upd_same⟩, p, _, _, rfl, rfl, upd_same, small1000 (by rw [List.length_reverse]; omega), ?_⟩
    refine ⟨fun b o e => ?_, _, _, rfl⟩
    have nb : b ≠ p := ne_of_none (sG _ _ e) hp
    rw [upd_ne nb, upd_ne nb]
    exact s2 _ _ (S1 _ _ e)
  · obtain ⟨sG, y2, y3, rfl⟩ := hP
    exact q _ sG
end
end E1

namespace E1
open PySem PySem.Spec PyProof.Rows L2
theorem PrsAt.ext {H H' : Hp} {vs : List V} {ps : List (Int × Int)} (h : PrsAt H vs ps) (e : LamX.ExtN H H') : PrsAt H' vs ps := by
  induction h with
  | nil => exact .nil
  | cons a _ ih => exact .cons (e _ _ a (fun _ z => nomatch z)) ih
theorem FrL.ext {H H' : Hp} {a : Addr} {qs : List Rat} (h : FrL H a qs) (e : LamX.ExtN H H') : FrL H' a qs := by
  obtain ⟨vs, h1, h2⟩ := h
  exact ⟨vs, e _ _ h1 (fun _ z => nomatch z), PrsAt.ext h2 e⟩
theorem cv_unit {f g : Nat → Rat} {i : Nat} (h0 : g 0 = 1) (h1 : ∀ m, 0 < m → m ≤ i → g m = 0) : cv f g i = f i := by
  show sg (fun j => f j * g (i - j)) i + f i * g (i - i) = f i
  rw [sg_zero i fun j hj => by rw [h1 (i - j) (by omega) (by omega)]; grind, Nat.sub_self, h0]
  grind
/-- the row 1, 0, 0, .. -/
def unitL (n : Nat) : List Rat := (1 :: List.replicate n 0).take n
theorem unitL_len (n : Nat) : (unitL n).length = n := by
  rw [unitL, List.length_take, List.length_cons, List.length_replicate]
  omega
theorem unitL_fn (n i : Nat) (h : i < n) : fn (unitL n) i = if i = 0 then 1 else 0 := by
  apply fn_lt
  rw [unitL, List.getElem?_take, if_pos h]
  cases i with
  | zero => rfl
  | succ i =>
    rw [List.getElem?_cons_succ, List.getElem?_replicate, if_pos (by omega)]
    rfl
theorem unit_ans (t b : List Rat) (n : Nat) : ansL t b (unitL n) = quo t b n := by
  unfold ansL
  rw [unitL_len]
  apply quo_congr
  intro i hi
  rw [pl_fn t _ hi]
  apply cv_unit
  · rw [unitL_fn n 0 (by omega)]
    rfl
  · intro m m0 mi
    rw [unitL_fn n m (by omega), if_neg (by omega)]
theorem back_len (t b : List Rat) (n : Nat) (hb : fn b 0 ≠ 0) : n ≤ (mulR b (quo t b n)).length := by
  by_cases n0 : n = 0
  · omega
  have b1 : 0 < b.length := by
    by_cases c : 0 < b.length
    · exact c
    · exact absurd (fn_ge (qs := b) (i := 0) (by omega)) hb
  have ne : ¬ (b = [] ∨ quo t b n = []) := fun z => by
    rcases z with z | z
    · rw [z] at b1
      exact absurd b1 (Nat.lt_irrefl 0)
    · have := congrArg List.length z
      rw [quo_len] at this
      exact n0 this
  unfold mulR
  rw [if_neg ne, List.length_map, List.length_range, quo_len]
  omega
theorem back_top (t b : List Rat) (n : Nat) (hb : fn b 0 ≠ 0) : (mulR b (quo t b n)).take n = (t ++ List.replicate n 0).take n := by
  have b1 : 0 < b.length := by
    by_cases c : 0 < b.length
    · exact c
    · exact absurd (fn_ge (qs := b) (i := 0) (by omega)) hb
  have len : ∀ i, i < n → i < (mulR b (quo t b n)).length := fun i hi => by
    have ne : ¬ (b = [] ∨ quo t b n = []) := fun z => by
      rcases z with z | z
      · rw [z] at b1
        exact absurd b1 (Nat.lt_irrefl 0)
      · have := congrArg List.length z
        rw [quo_len] at this
        have : n = 0 := this
        omega
    unfold mulR
    rw [if_neg ne, List.length_map, List.length_range, quo_len]
    omega
  apply List.ext_getElem?
  intro i
  rw [List.getElem?_take, List.getElem?_take]
  by_cases c : i < n
  · rw [if_pos c, if_pos c, List.getElem?_eq_getElem (len i c), ← fn_lt (List.getElem?_eq_getElem (len i c)), mulR_fn, quo_ok t b hb n i c]
    by_cases d : i < t.length
    · rw [List.getElem?_append_left d, List.getElem?_eq_getElem d, fn_lt (List.getElem?_eq_getElem d)]
    · rw [List.getElem?_append_right (by omega), List.getElem?_replicate, if_pos (by omega), fn_ge (by omega)]
  · rw [if_neg c, if_neg c]
theorem Ok15.rspT {t b x : List Rat} (h : Ok15 t b x) {n : Nat} (hn : n ≤ 9) : ∃ β0, Rsp 6350400 β0 B15 C15 n t b := by
  have up1 : ∀ q, Sc 2520 M15 q → Sc 6350400 B15 q := fun q hq => Sc.mono (D := 6350400) (hq.scale (k := 2520)) (by decide)
  obtain ⟨β0, e, l⟩ := fn_sc (fun q hq => up1 q (h.sb q hq)) 0
  refine ⟨β0, by decide, e, fun z => ?_, l, Nat.le_refl _, by decide, fun q hq => up1 q (h.sb q hq), fun q hq => up1 q (h.st q hq), by decide, by decide, ?_⟩
  · rw [z] at e
    have := h.b0
    have n0 : ((6350400 : Int) : Rat) ≠ 0 := cast_ne (by decide)
    push_cast at e n0
    grind
  · exact Nat.lt_of_le_of_lt (Nat.pow_le_pow_right (by decide) (show n + 1 ≤ 10 by omega)) (by decide +kernel)
theorem rep_frs {H : Hp} {p : Addr} {q : Rat} (h : Fr H p q) : ∀ n : Nat, FrsAt H (List.replicate n [V.ref p]).flatten (List.replicate n q)
  | 0 => .nil
  | n + 1 => .cons h (rep_frs h n)
theorem rep_sc {D : Int} {B n : Nat} {q r : Rat} (h : Sc D B q) (hr : r ∈ List.replicate n q) : Sc D B r := by
  rw [(List.mem_replicate.mp hr).2]
  exact h
theorem rep_len (n : Nat) (p : Addr) : (List.replicate n [V.ref p]).flatten.length = n := by
  induction n with
  | zero => rfl
  | succ n ih =>
    rw [List.replicate_succ, List.flatten_cons, List.length_append, ih]
    show 1 + n = n + 1
    omega
theorem cut_to {vs : List V} {n : Nat} (h : n ≤ vs.length) : cutV vs none (some (n : Int)) = vs.take n := by
  unfold cutV
  rw [HT.sIx_none, HT.sIx_nat, Nat.min_eq_left h, List.drop_zero, Nat.sub_zero]
theorem cut_from {vs : List V} {n : Nat} (h : n ≤ vs.length) : cutV vs (some (n : Int)) none = vs.drop n := by
  unfold cutV
  rw [HT.sIx_none, HT.sIx_nat, Nat.min_eq_left h, List.take_of_length_le (by rw [List.length_drop]; exact Nat.le_refl _)]
theorem unit_frs {H : Hp} {p1 p2 : Addr} {n : Nat} (h1 : Fr H p1 1) (h2 : Fr H p2 0) : FrsAt H (([V.ref p1] ++ (List.replicate n [V.ref p2]).flatten).take n) (unitL n) := FrsAt.take (FrsAt.app (qs := [1]) (FrsAt.one h1) (rep_frs h2 n)) n
theorem one_fr {H : Hp} {p : Addr} (h : H p = some (.tup [.int 1, .int 1])) : Fr H p 1 := h
theorem nul_fr {H : Hp} {p : Addr} (h : H p = some (.tup [.int 0, .int 1])) : Fr H p 0 := h
theorem unit_sc {n : Nat} : ∀ q ∈ unitL n, Sc 2520 (2 * M15) q := fun q hq => by
  rcases List.mem_cons.mp (List.mem_of_mem_take hq) with rfl | h
  · exact ⟨2520, by decide +kernel, by decide⟩
  · rw [(List.mem_replicate.mp h).2]
    exact .zero

/-- a def of the text with its code object -/
structure FunC (K : PySem.W.Frag) (x : Str) (st : Stmt) (f : Addr) (fd : FuncData) (c : Addr) : Prop where
  ex : ∃ (oc : Value) (od : Option Addr) (kV doc pm : Value) (an : Option Addr) (ct : Value) (osl : Array (Option Value)),
    fd = PySem.W.fnOf x x (defArgs st) (defBody st) (defScope st) .none kV doc pm an (.ref c) ct ∧ K.lookup f = some ⟨oc, od, .func fd, osl⟩ ∧ PySem.W.codeIn K (.ref c) x = true
theorem FunC.ok {P : Program} {w : World} {K : PySem.W.Frag} {mg : Str → Option Value} {base : Heap} {x : Str} {st : Stmt} {f c : Addr} {fd : FuncData} {N ps : List Str} {k : Nat} {sp : Sp} (F : FunC K x st f fd c) (S : FnScope N ps (defScope st)) (len : ∀ vs H Q E, sp vs H Q E → vs.length = ps.length)
    (hb : ∀ (A : Around) (out : List Env) (s : Shared) (H : Hp) (vs : List V) (Q : VK) (E : XK), Room k (A.deeper (envOfC x (defScope st) s.heap.objs.size f (.ref c))) → sp vs H Q E →
      ∃ t, PSs (cxOf CX0 P w K mg base N x (defScope st) f (.ref c) A out s H E).nox (defBody st) t ∧ t { nx := fun _ H' => Q .non H', rt := Q } (start N vs) H) : FnOk P w K mg base CX0 (k + 1) f fd ps sp := by
  obtain ⟨oc, od, kV, doc, pm, an, ct, osl, rfl, lk, hcd⟩ := F.ex
  exact fn_of lk hcd S len fun A out s H vs Q E hr hsp => let ⟨t, h, q⟩ := hb A out s H vs Q E hr hsp; ⟨t, h.nox, q⟩
abbrev lawQ : Str := (envOfC "law" (defScope s_law) 0 0 .none).qual ++ "<lambda>"
abbrev byQ : Str := (envOfC "_law_by_response" (defScope s__law_by_response) 0 0 .none).qual ++ "<lambda>"
def spBy (T : List (Addr × Str)) : Sp := fun vs H Q _ => ∃ (a c : Addr) (t b : List Rat) (n : Nat), vs = [.ref a, .ref c, .int n] ∧ FrL H a t ∧ FrL H c b ∧ Ok15 t b [] ∧ n ≤ 8 ∧ LamX.Tabs T H ∧ ∀ H', LamX.ExtN H H' → LamX.Tabs T H' → Q (.bl true) H'
section
variable {P : Program} {w : World} {K : PySem.W.Frag} {mg : Str → Option Value} {base : Heap}
theorem sc__law_by_response : FnScope ["_law_top", "_law_bottom_here", "_law_many", "_law_due", "_law_back"] ["_law_top", "_law_bottom_here", "_law_many"] (defScope s__law_by_response) := ⟨rfl, rfl, rfl, by decide +kernel, rfl, by decide +kernel, by decide +kernel⟩
theorem ok_by {f c gS : Addr} {cdS : Value} {fd : FuncData} {T : List (Addr × Str)} {Pb : Addr} (F : FunC K "_law_by_response" s__law_by_response f fd c) (z : Zs mg) (TB : LamX.TabB base mg c Pb) (hm : (Pb, byQ) ∈ T) (hu : ∀ p ∈ T, p.1 = Pb → p.2 = byQ) (GT : GotTwo K mg "_law_same" "_law_ask" "_law_due" s__law_same ["_law_ask", "_law_due", "_law_turn", "_law_told"] gS cdS) (c_response : Cal P w K mg base 6 "response" ["top", "bottom", "many"] spResp) (c__law_answers : Cal P w K mg base 3 "_law_answers" ["_law_top", "_law_bottom_here", "_law_come"] spAnsw) (c__law_multiplied : Cal P w K mg base 3 "_law_multiplied" ["_law_one_here", "_law_other"] spMul) (c__law_plain : Cal P w K mg base 3 "_law_plain" ["_law_told"] spPlL) : FnOk P w K mg base CX0 9 f fd ["_law_top", "_law_bottom_here", "_law_many"] (spBy T) := by
  refine F.ok sc__law_by_response (fun vs H Q E h => ?_) (fun A outer s H vs Q E hr h => ?_)
  · obtain ⟨a, c', t, b, n, rfl, _⟩ := h
    rfl
  · obtain ⟨a, cc, t, b, n, rfl, ht, hb, hO, hn, hT, q⟩ := h
    refine ⟨_, (pss_cons (ps_set (i := 3) sc__law_by_response.nd rfl (.inl rfl) (pe_cal c__law_answers hr (pa_cons (pv 0) (pa_cons (pv 1) (pa_cons (pe_slice sl_list (pe_op op_cat (pe_lst (pa_cons (pe_tup (pa_cons pe_int (pa_cons pe_int pa_nil))) pa_nil)) (pe_op op_rep (pe_lst (pa_cons (pe_tup (pa_cons pe_int (pa_cons pe_int pa_nil))) pa_nil)) (pv 2))) po_none (po_some (pv 2))) pa_nil)))))
      (pss_cons (ps_if (pt_not (pt_val (pe_lamTwo (k := 6) GT (gives_same (by decide) z c__law_plain) hr (pa_cons (pe_lamV (T := T) (k := 6) (t := fun _ => tCall spResp [] E0 (tCons (tVar 0) (tCons (tVar 1) (tCons (tVar 2) tNil)))) ⟨LamX.lamS_by (by show LamX.lamSB (defScope s__law_by_response) _ = true; decide +kernel), (by intros; rfl), (fun E A out s H fl cd rm => by exact (pe_cal c_response rm (pa_cons (pv 0) (pa_cons (pv 1) (pa_cons (pv 2) pa_nil)))))⟩ TB (hm := hm) (hu := hu)) (pa_cons (pv 3) pa_nil))))) (pss_one (ps_ret pe_bl)) pss_nil)
      (pss_cons (ps_set (i := 4) sc__law_by_response.nd rfl (.inl rfl) (pe_slice sl_list (pe_cal c__law_multiplied hr (pa_cons (pv 1) (pa_cons (pv 3) pa_nil))) po_none (po_some (pv 2))))
      (pss_one (ps_ret (pe_cmpR (op_eqD hr.units) (pv 4) (pe_slice sl_list (pe_op op_cat (pv 0) (pe_op op_rep (pe_lst (pa_cons (pe_tup (pa_cons pe_int (pa_cons pe_int pa_nil))) pa_nil)) (pv 2))) po_none (po_some (pv 2))) (nomark _))))))), ?_⟩
    refine ⟨_, rfl, _, rfl, (by show 2 ≤ sizeLine; decide), fun p1 h1 => ⟨(by show 1 ≤ sizeLine; decide), fun l1 hl1 => ?_⟩⟩
    have s1 := same_new (o := .tup [.int 1, .int 1]) h1
    have s2 := same_new (o := .lst [.ref p1]) hl1
    refine ⟨(by show 2 ≤ sizeLine; decide), fun p2 h2 => ⟨(by show 1 ≤ sizeLine; decide), fun l2 hl2 => ?_⟩⟩
    have s3 := same_new (o := .tup [.int 0, .int 1]) h2
    have s4 := same_new (o := .lst [.ref p2]) hl2
    refine ⟨_, rfl, l2, (n : Int), _, rfl, rfl, upd_same, by omega, by omega, Nat.le_trans (show 1 * ((n : Int)).toNat ≤ 1000 by omega) (by decide), fun l3 hl3 => ?_⟩
    rw [Int.toNat_natCast]
    have s5 := same_new (o := .lst (List.replicate n [V.ref p2]).flatten) hl3
    have S5 := s1.trans (s2.trans (s3.trans (s4.trans s5)))
    refine ⟨l1, l3, _, _, rfl, rfl, s5 _ _ (s4 _ _ (s3 _ _ upd_same)), upd_same, Nat.le_trans (show 1 + (List.replicate n [V.ref p2]).flatten.length ≤ 1000 by rw [rep_len]; omega) (by decide), fun l4 hl4 => ?_⟩
    have s6 := same_new (o := .lst ([V.ref p1] ++ (List.replicate n [V.ref p2]).flatten)) hl4
    refine ⟨_, rfl, _, rfl, l4, _, rfl, SqL.of upd_same, fun l5 hl5 => ?_⟩
    have ec : cutV ([V.ref p1] ++ (List.replicate n [V.ref p2]).flatten) none (some (n : Int)) = ([V.ref p1] ++ (List.replicate n [V.ref p2]).flatten).take n := cut_to (by rw [List.length_append, rep_len]; show n ≤ 1 + n; omega)
    rw [ec]
    have s7 := same_new (o := .lst (([V.ref p1] ++ (List.replicate n [V.ref p2]).flatten).take n)) hl5
    have S7 := S5.trans (s6.trans s7)
    have hU : FrsAt _ (([V.ref p1] ++ (List.replicate n [V.ref p2]).flatten).take n) (unitL n) := unit_frs (H := upd _ l5 (.lst (([V.ref p1] ++ (List.replicate n [V.ref p2]).flatten).take n))) (one_fr ((s2.trans (s3.trans (s4.trans (s5.trans (s6.trans s7))))) _ _ upd_same)) (nul_fr ((s4.trans (s5.trans (s6.trans s7))) _ _ upd_same))
    refine ⟨a, cc, l5, t, b, unitL n, rfl, ht.same S7, hb.same S7, ⟨_, upd_same, hU⟩, ⟨hO.st, hO.sb, unit_sc, hO.lt, hO.lb, by rw [unitL_len]; omega, hO.b0⟩, fun pd Hd hpd sd hFd => ?_⟩
    rw [unit_ans] at hFd
    have Sd := S7.trans sd
    clear hU ec s1 s2 s3 s4 s5 s6 s7 S5 S7 sd hpd
    obtain ⟨β0, hR⟩ := hO.rspT (n := n) (by omega)
    have pwn := hR.pw (show n ≤ n + 1 by omega)
    have bne : β0 ^ n ≠ 0 := Int.pow_ne_zero hR.b0
    have hrow := hR.row (Nat.le_refl n)
    have lt := hO.lt
    have lb := hO.lb
    refine ⟨LamX.Tabs.ext hT Sd, fun fl H6 e6 T6 hfl iL => ⟨_, rfl, fl, .ref pd, _, rfl, iL, fun cd => ⟨pd, quo t b n, rfl, hFd.ext e6, by rw [quo_len]; omega, fun y hy => up ((hrow y hy).bits bne (n := 900) pwn.2 pwn.1).2 (by decide), fun G Q' sG k => ?_, fun H7 s7 => ⟨_, rfl, iteF ?_⟩⟩⟩⟩
    · exact ⟨_, rfl, _, rfl, _, rfl, a, cc, t, b, n, 6350400, β0, B15, C15, rfl, ((ht.same Sd).ext e6).same sG, ((hb.same Sd).ext e6).same sG, hR, by omega, by omega, by omega, k⟩
    · have E7 : LamX.ExtN H H7 := (LamX.ExtN.of Sd).trans (e6.trans (LamX.ExtN.of s7))
      have T7 : LamX.Tabs T H7 := LamX.Tabs.ext T6 s7
      have hb7 := hb.ext E7
      have ht7 := ht.ext E7
      have hd7 := (hFd.ext e6).same s7
      refine ⟨_, rfl, _, rfl, cc, pd, b, quo t b n, 2520, β0 ^ n, M15, C15 ^ n, rfl, hb7, hd7, ⟨by decide, by decide, by decide, hO.sb⟩, ⟨bne, pwn.2, pwn.1, hrow⟩, by omega, by rw [quo_len]; omega, fun pm Hm hpm sm hFm => ?_⟩
      obtain ⟨vm, em, lm, fm⟩ := hFm.len
      refine ⟨_, rfl, _, rfl, pm, _, rfl, SqL.of em, fun pk hpk => ?_⟩
      have ec1 : cutV vm none (some (n : Int)) = vm.take n := cut_to (by rw [lm]; exact back_len t b n hO.b0)
      rw [ec1]
      have k1 := same_new (o := .lst (vm.take n)) hpk
      obtain ⟨vt, et, ltt, ft⟩ := (ht7.same (sm.trans k1)).len
      refine ⟨_, rfl, _, rfl, (by show 2 ≤ sizeLine; decide), fun p8 h8 => ⟨(by show 1 ≤ sizeLine; decide), fun l8 hl8 => ?_⟩⟩
      have k2 := same_new (o := .tup [.int 0, .int 1]) h8
      have k3 := same_new (o := .lst [.ref p8]) hl8
      refine ⟨_, rfl, l8, (n : Int), _, rfl, rfl, upd_same, by omega, by omega, Nat.le_trans (show 1 * ((n : Int)).toNat ≤ 1000 by omega) (by decide), fun l9 hl9 => ?_⟩
      rw [Int.toNat_natCast]
      have k4 := same_new (o := .lst (List.replicate n [V.ref p8]).flatten) hl9
      refine ⟨a, l9, vt, _, rfl, rfl, k4 _ _ (k3 _ _ (k2 _ _ et)), upd_same, Nat.le_trans (show vt.length + (List.replicate n [V.ref p8]).flatten.length ≤ 1000 by rw [rep_len]; omega) (by decide), fun l10 hl10 => ?_⟩
      have k5 := same_new (o := .lst (vt ++ (List.replicate n [V.ref p8]).flatten)) hl10
      refine ⟨_, rfl, _, rfl, l10, _, rfl, SqL.of upd_same, fun l11 hl11 => ?_⟩
      have ec2 : cutV (vt ++ (List.replicate n [V.ref p8]).flatten) none (some (n : Int)) = (vt ++ (List.replicate n [V.ref p8]).flatten).take n := cut_to (by rw [List.length_append, rep_len]; omega)
      rw [ec2]
      have k6 := same_new (o := .lst ((vt ++ (List.replicate n [V.ref p8]).flatten).take n)) hl11
      have K2 := k2.trans (k3.trans (k4.trans (k5.trans k6)))
      have f8 := nul_fr ((k3.trans (k4.trans (k5.trans k6))) _ _ (upd_same (a := p8) (o := .tup [.int 0, .int 1])))
      refine ⟨.list (((mulR b (quo t b n)).take n).map frD), .list (((t ++ List.replicate n 0).take n).map frD), .lst (SqL.of (K2 _ _ upd_same)) (FrsAt.dp (PrsAt.same (FrsAt.take fm n) (k1.trans K2))), .lst (SqL.of upd_same) (FrsAt.dp (FrsAt.take (FrsAt.app (PrsAt.same ft K2) (rep_frs f8 n)) n)), frL_shaped _, frL_shaped _, ?_⟩
      rw [frL_eqv, decide_eq_true (back_top t b n hO.b0)]
      exact q _ (E7.trans (LamX.ExtN.of (sm.trans (k1.trans K2)))) (LamX.Tabs.ext T7 (sm.trans (k1.trans K2)))
end
end E1

namespace E1
open PySem PySem.Spec PyProof.Rows L2
theorem cv_zero_of {b d : Nat → Rat} (b0 : b 0 ≠ 0) {n : Nat} (h : ∀ k, k < n → cv b d k = 0) : ∀ k, k < n → d k = 0 := by
  intro k
  induction k using Nat.strongRecOn with
  | ind k ih =>
    intro hk
    have low := cv_low (f := b) (g := d) (k := k) (m := k) (fun i hi => ih i hi (by omega)) (Nat.le_refl k)
    rw [h k hk, if_pos rfl] at low
    grind
theorem quo_uniq {t b h : List Rat} {n : Nat} (b0 : fn b 0 ≠ 0) (hl : h.length = n) (he : ∀ k, k < n → cv (fn b) (fn h) k = fn t k) : h = quo t b n := by
  have z := cv_zero_of (b := fn b) (d := fun i => fn h i - fn (quo t b n) i) b0 (n := n) fun k hk => by
    rw [cv_sub, he k hk, quo_ok t b b0 n k hk]
    grind
  apply List.ext_getElem?
  intro i
  by_cases c : i < n
  · have := z i c
    have e : fn h i = fn (quo t b n) i := by grind
    have l2 : i < (quo t b n).length := by rw [quo_len]; exact c
    rw [List.getElem?_eq_getElem (show i < h.length by omega), List.getElem?_eq_getElem l2, ← fn_lt (List.getElem?_eq_getElem (show i < h.length by omega)), ← fn_lt (List.getElem?_eq_getElem l2), e]
  · rw [List.getElem?_eq_none (by omega), List.getElem?_eq_none (by rw [quo_len]; omega)]
def addL (xs ys : List Rat) : List Rat := List.zipWith (· + ·) xs ys
theorem addL_len {xs ys : List Rat} (h : xs.length = ys.length) : (addL xs ys).length = xs.length := by
  rw [addL, List.length_zipWith, h, Nat.min_self]
theorem addL_fn {xs ys : List Rat} (h : xs.length = ys.length) (i : Nat) : fn (addL xs ys) i = fn xs i + fn ys i := by
  by_cases c : i < xs.length
  · have d : i < ys.length := by omega
    apply fn_lt
    rw [addL, List.getElem?_zipWith, List.getElem?_eq_getElem c, List.getElem?_eq_getElem d, ← fn_lt (List.getElem?_eq_getElem c), ← fn_lt (List.getElem?_eq_getElem d)]
  · rw [fn_ge (by rw [addL_len h]; omega), fn_ge (by omega), fn_ge (by omega)]
    grind
theorem cv_add (f g h : Nat → Rat) (m : Nat) : cv f (fun i => g i + h i) m = cv f g m + cv f h m := by
  have e := cv_lin f g h 1 m
  have e2 : cv f (fun i => 1 * g i + h i) m = cv f (fun i => g i + h i) m := cv_congr (fun _ _ => rfl) (fun i _ => by grind)
  rw [← e2, e]
  grind
theorem ans_len (t b x : List Rat) : (ansL t b x).length = x.length := by
  unfold ansL
  rw [quo_len]
theorem ans_ok {t b x : List Rat} (b0 : fn b 0 ≠ 0) {k : Nat} (hk : k < x.length) : cv (fn b) (fn (ansL t b x)) k = cv (fn t) (fn x) k := by
  unfold ansL
  rw [quo_ok _ _ b0 _ _ hk, pl_fn _ _ hk]
theorem ans_uniq {t b x h : List Rat} (b0 : fn b 0 ≠ 0) (hl : h.length = x.length) (he : ∀ k, k < x.length → cv (fn b) (fn h) k = cv (fn t) (fn x) k) : h = ansL t b x := by
  unfold ansL
  exact quo_uniq b0 hl fun k hk => by rw [he k hk, pl_fn _ _ hk]
theorem ans_add {t b x y : List Rat} (b0 : fn b 0 ≠ 0) (h : x.length = y.length) : ansL t b (addL x y) = addL (ansL t b x) (ansL t b y) := by
  have hl : (ansL t b x).length = (ansL t b y).length := by rw [ans_len, ans_len, h]
  symm
  apply ans_uniq b0
  · rw [addL_len hl, ans_len, addL_len h]
  · intro k hk
    rw [addL_len h] at hk
    have e1 : fn (addL (ansL t b x) (ansL t b y)) = fun i => fn (ansL t b x) i + fn (ansL t b y) i := funext fun i => addL_fn hl i
    have e2 : fn (addL x y) = fun i => fn x i + fn y i := funext fun i => addL_fn h i
    rw [e1, e2, cv_add, cv_add, ans_ok b0 hk, ans_ok b0 (by omega)]
theorem fn_sh (h : List Rat) : fn (0 :: h) = sh (fn h) := funext fun i => by
  cases i with
  | zero => rfl
  | succ i => rfl
theorem ans_later {t b x : List Rat} (b0 : fn b 0 ≠ 0) : ansL t b (0 :: x) = 0 :: ansL t b x := by
  symm
  apply ans_uniq b0
  · rw [List.length_cons, List.length_cons, ans_len]
  · intro k hk
    rw [fn_sh, fn_sh]
    cases k with
    | zero => rw [cv_sh0, cv_sh0]
    | succ k =>
      rw [cv_sh, cv_sh, ans_ok b0]
      rw [List.length_cons] at hk
      omega
theorem mulL_R (xs ys : List Rat) : mulL xs ys = mulR xs ys := rfl
/-- the sum of two places, as reckoned by the law -/
theorem two_sum (q r : Rat) : sumR ([pr q, pr r].map fun p => Rat.divInt p.1 p.2) = q + r := by
  have e : ∀ s : Rat, Rat.divInt (pr s).1 (pr s).2 = s := fun s => div_is (den_ne s) (q_eq s)
  show Rat.divInt (pr q).1 (pr q).2 + (Rat.divInt (pr r).1 (pr r).2 + 0) = q + r
  rw [e, e]
  grind
theorem Rsp.same {D β0 β1 : Int} {B B' C C' n n' : Nat} {t t' b : List Rat} (h : Rsp D β0 B C n t b) (h' : Rsp D β1 B' C' n' t' b) : β0 = β1 := by
  have := h.f0.symm.trans h'.f0
  exact_mod_cast this
theorem afar1 : quo [1] [1, -1] 200 = (List.replicate 100 [(1 : Rat), 1]).flatten := by decide +kernel
theorem afar2 : quo [1] [1, 1] 200 = (List.replicate 100 [(1 : Rat), -1]).flatten := by decide +kernel
theorem rep2_frs {H : Hp} {p p' : Addr} {q q' : Rat} (h : Fr H p q) (h' : Fr H p' q') : ∀ n : Nat, FrsAt H (List.replicate n [V.ref p, V.ref p']).flatten (List.replicate n [q, q']).flatten
  | 0 => .nil
  | n + 1 => .cons h (.cons h' (rep2_frs h h' n))
theorem FrL.copy {H : Hp} {a l : Addr} {qs : List Rat} {vs : List V} (e : H a = some (.lst vs)) (h : FrL H a qs) (hl : H l = none) : FrL (upd H l (.lst vs)) l qs := by
  obtain ⟨ws, e2, r⟩ := h
  rw [e] at e2
  cases e2
  exact ⟨vs, upd_same, PrsAt.same r (same_new hl)⟩
theorem FrL.well {H H' : Hp} {w a : Addr} {c : Int} {qs : List Rat} (h : FrL H a qs) (s : SameBut w H H') (hw : WellAt H w c) (n : a ≠ w) : FrL H' a qs := by
  obtain ⟨vs, e, r⟩ := h
  exact ⟨vs, s _ _ n e, PrsAt.well r s hw⟩
theorem tabs_but {T : List (Addr × Str)} {H H' : Hp} {w : Addr} {c : Int} (t : LamX.Tabs T H) (s : SameBut w H H') (hw : WellAt H w c) : LamX.Tabs T H' := fun p hp => by
  obtain ⟨ps, a1, a2, a3⟩ := t p hp
  obtain ⟨_, _, _, e, _⟩ := hw
  refine ⟨ps, s _ _ (ne_of a1 e (fun z => nomatch z)) a1, a2, fun q cv hc => ?_⟩
  obtain ⟨c, e1, e2⟩ := a3 q cv hc
  exact ⟨c, e1, s _ _ (ne_of e2 e (fun z => by unfold LamX.CodeO at z; cases z)) e2⟩
theorem WellAt.ext {H H' : Hp} {w : Addr} {c : Int} (h : WellAt H w c) (e : LamX.ExtN H H') : WellAt H' w c := by
  obtain ⟨x, y, z, h1, h2⟩ := h
  exact ⟨x, y, z, e _ _ h1 (fun _ z => nomatch z), h2⟩
theorem addL_mem {xs ys : List Rat} {q : Rat} (h : q ∈ addL xs ys) : ∃ a ∈ xs, ∃ b ∈ ys, q = a + b := by
  obtain ⟨i, hi⟩ := List.getElem?_of_mem h
  rw [addL, List.getElem?_zipWith] at hi
  cases ha : xs[i]? with
  | none => rw [ha] at hi; cases hi
  | some a =>
    cases hb : ys[i]? with
    | none => rw [ha, hb] at hi; cases hi
    | some b =>
      rw [ha, hb] at hi
      cases hi
      exact ⟨a, List.mem_of_getElem? ha, b, List.mem_of_getElem? hb, rfl⟩
theorem mulR_mem {xs ys : List Rat} {q : Rat} (h : q ∈ mulR xs ys) : ∃ k, q = cv (fn xs) (fn ys) k := by
  unfold mulR at h
  split at h
  · exact absurd h List.not_mem_nil
  · obtain ⟨k, _, rfl⟩ := List.mem_map.mp h
    exact ⟨k, rfl⟩
theorem rspU {s : Rat} (hs : Sc 1 1 s) : Rsp 1 1 1 6 200 [1] [1, s] := by
  have one : Sc 1 1 1 := ⟨1, by decide +kernel, by decide⟩
  have f0 : fn [1, s] 0 * ((1 : Int) : Rat) = ((1 : Int) : Rat) := by
    show (1 : Rat) * ((1 : Int) : Rat) = ((1 : Int) : Rat)
    decide +kernel
  refine ⟨by decide, f0, by decide, by decide, by decide, by decide, fun x hx => ?_, fun x hx => ?_, by decide, by decide, by decide +kernel⟩
  · rcases List.mem_cons.mp hx with rfl | h
    · exact one
    · rw [List.mem_singleton.mp h]
      exact hs
  · rw [List.mem_singleton.mp hx]
    exact one
theorem fr_m0 {H : Hp} {p : Addr} {af : Int} (e : af = 0) (h : H p = some (.tup [.int (2 * af - 1), .int 1])) : Fr H p (-1) := by
  rw [e] at h
  exact h
theorem fr_m1 {H : Hp} {p : Addr} {af : Int} (e : af = 1) (h : H p = some (.tup [.int (2 * af - 1), .int 1])) : Fr H p 1 := by
  rw [e] at h
  exact h
theorem fr_n0 {H : Hp} {p : Addr} {af : Int} (e : af = 0) (h : H p = some (.tup [.int (1 - 2 * af), .int 1])) : Fr H p 1 := by
  rw [e] at h
  exact h
theorem fr_n1 {H : Hp} {p : Addr} {af : Int} (e : af = 1) (h : H p = some (.tup [.int (1 - 2 * af), .int 1])) : Fr H p (-1) := by
  rw [e] at h
  exact h
theorem sc_m1 : Sc 1 1 (-1) := ⟨-1, by decide +kernel, by decide⟩
theorem sc_p1 : Sc 1 1 1 := ⟨1, by decide +kernel, by decide⟩

end E1

namespace E1
open PySem PySem.Spec PyProof.Rows L2

def TT15 (Pt Pb : Addr) : List (Addr × Str) := [(Pt, lawQ), (Pb, byQ)]
def spLaw (K : PySem.W.Frag) (Pt Pb : Addr) : Sp := fun vs H Q _ => ∃ (a : Addr) (ns : List Int), vs = [.ref a] ∧ SqL K H a (ns.map V.int) ∧ ns.length ≤ 63 ∧ LamX.Tabs (TT15 Pt Pb) H ∧ ∀ H', Q (.bl true) H'
theorem sqL_ext {K : PySem.W.Frag} {H H' : Hp} {a : Addr} {xs : List V} (h : SqL K H a xs) (e : LamX.ExtN H H') : SqL K H' a xs := by
  rcases h with (h | ⟨o, h⟩) | h
  · exact .inl (.inl (e _ _ h (fun _ z => nomatch z)))
  · exact .inl (.inr ⟨o, e _ _ h (fun _ z => nomatch z)⟩)
  · exact .inr h
theorem Same.seq {K : PySem.W.Frag} {H H' : Hp} {a : Addr} {xs : List V} (s : Same H H') (h : SqL K H a xs) : SqL K H' a xs := sqL_ext h (LamX.ExtN.of s)
def llD (qss : List (List Rat)) : List PyData := qss.map fun qs => .list (qs.map frD)
theorem ll_lay : ∀ qss : List (List Rat), PyData.canLayAll0 (llD qss) = true
  | [] => rfl
  | qs :: qss => by
    unfold llD
    rw [List.map_cons, PyData.canLayAll0]
    have i := ll_lay qss
    unfold llD at i
    rw [i, Bool.and_true]
    exact SeqAt.canLay_of_shaped (frL_shaped qs)
theorem ll_deep : ∀ qss : List (List Rat), PyData.depthAll (llD qss) ≤ 6
  | [] => by simp [llD, PyData.depthAll]
  | qs :: qss => by
    have i := ll_deep qss
    have j := frDs_deep qs
    unfold llD at *
    simp only [List.map_cons, PyData.depthAll, PyData.depth]
    omega
theorem ll_shaped (qss : List (List Rat)) : SeqAt.shaped (.list (llD qss)) = true := by
  have h1 := ll_deep qss
  have h2 : PyData.depth (.list (llD qss)) ≤ 64 := by simp only [PyData.depth]; omega
  show (PyData.canLay0 (.list (llD qss)) && decide (PyData.depth (.list (llD qss)) ≤ 64)) = true
  rw [Bool.and_eq_true]
  exact ⟨by simp only [PyData.canLay0]; exact ll_lay qss, decide_eq_true h2⟩
theorem ll_eqv (qss : List (List Rat)) : PyData.eqv (.list (llD qss)) (.list (llD qss)) = true := SeqAt.eqv_refl _ (SeqAt.canLay_of_shaped (ll_shaped qss))
theorem FrL.dp {K : PySem.W.Frag} {H : Hp} {a : Addr} {qs : List Rat} (h : FrL H a qs) : Dp K H (.ref a) (.list (qs.map frD)) := by
  obtain ⟨vs, e, r⟩ := h
  exact .lst (SqL.of e) (FrsAt.dp r)
theorem FrL.nw {H : Hp} {a w : Addr} {qs : List Rat} {c : Int} (h : FrL H a qs) (hw : WellAt H w c) : a ≠ w := fun e => by
  obtain ⟨vs, h1, h2⟩ := h
  obtain ⟨x, y, z, h3, _⟩ := hw
  rw [e, h3] at h1
  cases h1
  cases hq : qs with
  | nil => rw [hq] at h2; cases h2
  | cons q qs' => rw [hq] at h2; cases h2
/-- what the law holds in hand while it looks at one number -/
structure Bag (T : List (Addr × Str)) (H0 : Hp) (ww Lh h0 h1 h2 pt pu px po : Addr) (t u x y : List Rat) (c : Int) (G : Hp) : Prop where
  hp : H0 ww = none
  k0 : LamX.ExtN H0 G
  tb : LamX.Tabs T G
  wl : WellAt G ww c
  eL : G Lh = some (.lst [.ref h0, .ref h1, .ref h2])
  d0 : FrL G h0 t
  d1 : FrL G h1 u
  d2 : FrL G h2 x
  e0 : FrL G pt t
  e1 : FrL G pu u
  e2 : FrL G px x
  e3 : FrL G po y
section
variable {T : List (Addr × Str)} {H0 G G' : Hp} {ww Lh h0 h1 h2 pt pu px po : Addr} {t u x y : List Rat} {c c' : Int}
theorem Bag.ext (B : Bag T H0 ww Lh h0 h1 h2 pt pu px po t u x y c G) (e : LamX.ExtN G G') (tb : LamX.Tabs T G') : Bag T H0 ww Lh h0 h1 h2 pt pu px po t u x y c G' :=
  ⟨B.hp, B.k0.trans e, tb, B.wl.ext e, e _ _ B.eL (fun _ z => nomatch z), B.d0.ext e, B.d1.ext e, B.d2.ext e, B.e0.ext e, B.e1.ext e, B.e2.ext e, B.e3.ext e⟩
theorem Bag.same (B : Bag T H0 ww Lh h0 h1 h2 pt pu px po t u x y c G) (s : Same G G') : Bag T H0 ww Lh h0 h1 h2 pt pu px po t u x y c G' := B.ext (LamX.ExtN.of s) (LamX.Tabs.ext B.tb s)
theorem Bag.draw (B : Bag T H0 ww Lh h0 h1 h2 pt pu px po t u x y c G) (s : SameBut ww G G') (w' : WellAt G' ww c') : Bag T H0 ww Lh h0 h1 h2 pt pu px po t u x y c' G' := by
  have nL : Lh ≠ ww := fun e => by
    obtain ⟨_, _, _, h3, _⟩ := B.wl
    have := B.eL
    rw [e, h3] at this
    cases this
  exact ⟨B.hp, fun b o e n => s _ _ (ne_of_none e B.hp) (B.k0 _ _ e n), tabs_but B.tb s B.wl, w', s _ _ nL B.eL, B.d0.well s B.wl (B.d0.nw B.wl), B.d1.well s B.wl (B.d1.nw B.wl), B.d2.well s B.wl (B.d2.nw B.wl), B.e0.well s B.wl (B.e0.nw B.wl), B.e1.well s B.wl (B.e1.nw B.wl), B.e2.well s B.wl (B.e2.nw B.wl), B.e3.well s B.wl (B.e3.nw B.wl)⟩
end
theorem cut_ints (ns : List Int) (lo hi : Option Int) : ∃ cs : List Int, cutV (ns.map V.int) lo hi = cs.map V.int := by
  unfold cutV
  rw [← List.map_drop, ← List.map_take]
  exact ⟨_, rfl⟩
section
variable {P : Program} {w : World} {K : PySem.W.Frag} {mg : Str → Option Value} {base : Heap}
theorem sc_law : FnScope ["_law_script", "_law_cell", "_law_well_here", "_law_kind", "_law_top", "_law_bottom_here", "_law_come", "_law_other", "_law_due", "_law_both", "_law_sums", "_law_afar", "_law_handed", "_law_a", "_law_b"] ["_law_script"] (defScope s_law) := ⟨rfl, rfl, rfl, by decide +kernel, rfl, by decide +kernel, by decide +kernel⟩
theorem ok_law {f c Pt Pb gS : Addr} {cdS : Value} {fd : FuncData} (F : FunC K "law" s_law f fd c) (z : Zs mg) (TB : LamX.TabB base mg c Pt) (nP : Pt ≠ Pb) (GT : GotTwo K mg "_law_same" "_law_ask" "_law_due" s__law_same ["_law_ask", "_law_due", "_law_turn", "_law_told"] gS cdS) (c__law_cell_at : Cal P w K mg base 1 "_law_cell_at" ["_law_script", "_law_k"] (spCell K)) (c__law_well : Cal P w K mg base 1 "_law_well" ["_law_cell"] spWell) (c__law_draw : Cal P w K mg base 1 "_law_draw" ["_law_well_here", "_law_many"] spDraw) (c__law_series : Cal P w K mg base 3 "_law_series" ["_law_well_here", "_law_many", "_law_kind"] spSeries) (c__law_bottom : Cal P w K mg base 4 "_law_bottom" ["_law_well_here", "_law_many", "_law_kind"] spBottom) (c__law_answers : Cal P w K mg base 3 "_law_answers" ["_law_top", "_law_bottom_here", "_law_come"] spAnsw) (c__law_multiplied : Cal P w K mg base 3 "_law_multiplied" ["_law_one_here", "_law_other"] spMul) (c__law_sum : Cal P w K mg base 2 "_law_sum" ["_law_some"] spSumP) (c__law_plain : Cal P w K mg base 3 "_law_plain" ["_law_told"] spPlL) (c__law_by_response : Cal P w K mg base 9 "_law_by_response" ["_law_top", "_law_bottom_here", "_law_many"] (spBy (TT15 Pt Pb))) (c_answered : Cal P w K mg base 7 "answered" ["top", "bottom", "inputs"] spAns) (c_product_of : Cal P w K mg base 7 "product_of" ["one", "other"] spProd) (c_response : Cal P w K mg base 6 "response" ["top", "bottom", "many"] spResp) : FnOk P w K mg base CX0 10 f fd ["_law_script"] (spLaw K Pt Pb) := by
  have hu : ∀ p ∈ TT15 Pt Pb, p.1 = Pt → p.2 = lawQ := fun p hp e => by
    rcases List.mem_cons.mp hp with rfl | hp
    · rfl
    · rw [List.mem_singleton.mp hp] at e
      exact absurd e.symm nP
  refine F.ok sc_law (fun vs H Q E h => ?_) (fun A outer s H vs Q E hr h => ?_)
  · obtain ⟨a, ns, rfl, _⟩ := h
    rfl
  · obtain ⟨a, ns, rfl, hS, hn, hT, q⟩ := h
    refine ⟨_, (pss_cons (ps_for PassesOwn.never rfl (pi_list (pe_op op_cat (pe_lst (pa_cons (pe_cal c__law_cell_at hr (pa_cons (pv 0) (pa_cons pe_int pa_nil))) pa_nil)) (pe_slice sl_list (pv 0) (po_some pe_int) (po_some pe_int)))) (pg_name (i := 1) sc_law.nd rfl (.inl rfl)) (pss_cons (ps_set (i := 2) sc_law.nd rfl (.inl rfl) (pe_cal c__law_well hr (pa_cons (pv 1) pa_nil)))
      (pss_cons (ps_set (i := 3) sc_law.nd rfl (.inl rfl) (pe_op op_fdiv (pe_cal c__law_draw hr (pa_cons (pv 2) (pa_cons pe_int pa_nil))) pe_int))
      (pss_cons (ps_set (i := 4) sc_law.nd rfl (.inl rfl) (pe_cal c__law_series hr (pa_cons (pv 2) (pa_cons (pe_cal c__law_draw hr (pa_cons (pv 2) (pa_cons pe_int pa_nil))) (pa_cons (pv 3) pa_nil)))))
      (pss_cons (ps_set (i := 5) sc_law.nd rfl (.inl rfl) (pe_cal c__law_bottom hr (pa_cons (pv 2) (pa_cons (pe_op op_add pe_int (pe_cal c__law_draw hr (pa_cons (pv 2) (pa_cons pe_int pa_nil)))) (pa_cons (pv 3) pa_nil)))))
      (pss_cons (ps_set (i := 6) sc_law.nd rfl (.inl rfl) (pe_cal c__law_series hr (pa_cons (pv 2) (pa_cons (pe_cal c__law_draw hr (pa_cons (pv 2) (pa_cons pe_int pa_nil))) (pa_cons (pv 3) pa_nil)))))
      (pss_cons (ps_set (i := 7) sc_law.nd rfl (.inl rfl) (pe_cal c__law_series hr (pa_cons (pv 2) (pa_cons (pe_callB call_len_seq (by rfl) z.len PySem.boot_len (pa_cons (pv 6) pa_nil)) (pa_cons pe_int pa_nil)))))
      (pss_cons (ps_set (i := 12) sc_law.nd rfl (.inr rfl) (pe_lst (pa_cons (pe_callTy call_list_of (by rfl) z.list (by decide +kernel) (pa_cons (pv 4) pa_nil)) (pa_cons (pe_callTy call_list_of (by rfl) z.list (by decide +kernel) (pa_cons (pv 5) pa_nil)) (pa_cons (pe_callTy call_list_of (by rfl) z.list (by decide +kernel) (pa_cons (pv 6) pa_nil)) pa_nil)))))
      (pss_cons (ps_set (i := 8) sc_law.nd rfl (.inl rfl) (pe_cal c__law_answers hr (pa_cons (pv 4) (pa_cons (pv 5) (pa_cons (pv 6) pa_nil)))))
      (pss_cons (ps_if (PW.pt (pw_or (pt_not (pt_val (pe_lamTwo (k := 7) GT (gives_same (by decide) z c__law_plain) hr (pa_cons (pe_lamV (T := TT15 Pt Pb) (k := 7) (t := fun _ => tCall spAns [] E0 (tCons (tOp (rIxL K) (tVar 12) (tC (.int 0))) (tCons (tOp (rIxL K) (tVar 12) (tC (.int 1))) (tCons (tOp (rIxL K) (tVar 12) (tC (.int 2))) tNil)))) ⟨LamX.lamS_by (by show LamX.lamSB (defScope s_law) _ = true; decide +kernel), (by intros; rfl), (fun E A out s H fl cd rm => by exact (pe_cal c_answered rm (pa_cons (pe_ix ix_list (pv 12) pe_int (fun _ _ => rfl)) (pa_cons (pe_ix ix_list (pv 12) pe_int (fun _ _ => rfl)) (pa_cons (pe_ix ix_list (pv 12) pe_int (fun _ _ => rfl)) pa_nil)))))⟩ TB (hm := List.mem_cons_self) (hu := hu)) (pa_cons (pv 8) pa_nil))))) (pw_or1 (pt_cmpR (op_neD hr.units) (pv 12) (pe_lst (pa_cons (pv 4) (pa_cons (pv 5) (pa_cons (pv 6) pa_nil)))) (nomark _))))) (pss_one (ps_ret pe_bl)) pss_nil)
      (pss_cons (ps_if (PW.pt (pw_or (pt_not (pt_val (pe_cal c__law_by_response hr (pa_cons (pe_ix ix_list (pv 12) pe_int (fun _ _ => rfl)) (pa_cons (pe_ix ix_list (pv 12) pe_int (fun _ _ => rfl)) (pa_cons (pe_cal c__law_draw hr (pa_cons (pv 2) (pa_cons pe_int pa_nil))) pa_nil)))))) (pw_or1 (pt_cmpR (op_neD hr.units) (pe_slice sl_list (pv 12) po_none (po_some pe_int)) (pe_lst (pa_cons (pv 4) (pa_cons (pv 5) pa_nil))) (nomark _))))) (pss_one (ps_ret pe_bl)) pss_nil)
      (pss_cons (ps_setLc (i := 9) (own := [("_law_a", 13), ("_law_b", 14)]) (g := gTup K 2 (gCons (gName 13) (gCons (gName 14) gNil))) (tt := tYes) (te := (tCall spSumP [] E0 (tCons (tLst (tCons (tVar 13) (tCons (tVar 14) tNil))) tNil))) (by rfl) sc_law.nd rfl rfl (sw_true rfl rfl rfl (by decide +kernel)) (RZ.pi_zipA (by rfl) z.zip (pa_cons (pv 6) (pa_cons (pv 7) pa_nil))) (blkOk_by (own := [("_law_a", 13), ("_law_b", 14)]) (N := ["_law_script", "_law_cell", "_law_well_here", "_law_kind", "_law_top", "_law_bottom_here", "_law_come", "_law_other", "_law_due", "_law_both", "_law_sums", "_law_afar", "_law_handed", "_law_a", "_law_b"]) (sc := defScope s_law) (by decide +kernel)) (fun _ _ _ _ _ => by exact (pg_tup (by rfl) (pgs_cons (pg_name (i := 13) sc_law.nd rfl (.inl rfl)) (pgs_cons (pg_name (i := 14) sc_law.nd rfl (.inl rfl)) pgs_nil)))) (fun _ _ _ _ _ => by exact pts_nil) (fun _ _ _ _ _ => by exact (pe_cal c__law_sum hr (pa_cons (pe_lst (pa_cons (pv 13) (pa_cons (pv 14) pa_nil))) pa_nil))))
      (pss_cons (ps_setLc (i := 10) (own := [("_law_a", 13), ("_law_b", 14)]) (g := gTup K 2 (gCons (gName 13) (gCons (gName 14) gNil))) (tt := tYes) (te := (tCall spSumP [] E0 (tCons (tLst (tCons (tVar 13) (tCons (tVar 14) tNil))) tNil))) (by rfl) sc_law.nd rfl rfl (sw_true rfl rfl rfl (by decide +kernel)) (RZ.pi_zipA (by rfl) z.zip (pa_cons (pv 8) (pa_cons (pe_cal c_answered hr (pa_cons (pv 4) (pa_cons (pv 5) (pa_cons (pv 7) pa_nil)))) pa_nil))) (blkOk_by (own := [("_law_a", 13), ("_law_b", 14)]) (N := ["_law_script", "_law_cell", "_law_well_here", "_law_kind", "_law_top", "_law_bottom_here", "_law_come", "_law_other", "_law_due", "_law_both", "_law_sums", "_law_afar", "_law_handed", "_law_a", "_law_b"]) (sc := defScope s_law) (by decide +kernel)) (fun _ _ _ _ _ => by exact (pg_tup (by rfl) (pgs_cons (pg_name (i := 13) sc_law.nd rfl (.inl rfl)) (pgs_cons (pg_name (i := 14) sc_law.nd rfl (.inl rfl)) pgs_nil)))) (fun _ _ _ _ _ => by exact pts_nil) (fun _ _ _ _ _ => by exact (pe_cal c__law_sum hr (pa_cons (pe_lst (pa_cons (pv 13) (pa_cons (pv 14) pa_nil))) pa_nil))))
      (pss_cons (ps_if (PW.pt (pw_or (pt_cmpR (op_neD hr.units) (pe_cal c_answered hr (pa_cons (pv 4) (pa_cons (pv 5) (pa_cons (pv 9) pa_nil)))) (pv 10) (nomark _)) (pw_or1 (pt_cmpR (op_neD hr.units) (pe_slice sl_list (pe_cal c_answered hr (pa_cons (pv 4) (pa_cons (pv 5) (pa_cons (pe_op op_cat (pe_lst (pa_cons (pe_tup (pa_cons pe_int (pa_cons pe_int pa_nil))) pa_nil)) (pv 6)) pa_nil)))) (po_some pe_int) po_none) (pv 8) (nomark _))))) (pss_one (ps_ret pe_bl)) pss_nil)
      (pss_cons (ps_if (pt_not (pt_val (pe_lamTwo (k := 7) GT (gives_same (by decide) z c__law_plain) hr (pa_cons (pe_lamV (T := TT15 Pt Pb) (k := 7) (t := fun _ => tCall spProd [] E0 (tCons (tOp (rIxL K) (tVar 12) (tC (.int 0))) (tCons (tOp (rIxL K) (tVar 12) (tC (.int 2))) tNil))) ⟨LamX.lamS_by (by show LamX.lamSB (defScope s_law) _ = true; decide +kernel), (by intros; rfl), (fun E A out s H fl cd rm => by exact (pe_cal c_product_of rm (pa_cons (pe_ix ix_list (pv 12) pe_int (fun _ _ => rfl)) (pa_cons (pe_ix ix_list (pv 12) pe_int (fun _ _ => rfl)) pa_nil))))⟩ TB (hm := List.mem_cons_self) (hu := hu)) (pa_cons (pe_cal c__law_multiplied hr (pa_cons (pv 4) (pa_cons (pv 6) pa_nil))) pa_nil))))) (pss_one (ps_ret pe_bl)) pss_nil)
      (pss_one (ps_if (PW.pt (pw_or (pt_cmpR (op_neD hr.units) (pe_ix ix_list (pv 12) pe_int (fun _ _ => rfl)) (pv 4) (nomark _)) (pw_or1 (pt_cmpR (op_neD hr.units) (pe_ix ix_list (pv 12) pe_int (fun _ _ => rfl)) (pv 6) (nomark _))))) (pss_one (ps_ret pe_bl)) pss_nil)))))))))))))))))
      (pss_cons (ps_set (i := 11) sc_law.nd rfl (.inl rfl) (pe_op op_mod (pe_cal c__law_cell_at hr (pa_cons (pv 0) (pa_cons pe_int pa_nil))) pe_int))
      (pss_one (ps_ret (pe_cmpR (op_eqD hr.units) (pe_cal c_response hr (pa_cons (pe_lst (pa_cons (pe_tup (pa_cons pe_int (pa_cons pe_int pa_nil))) pa_nil)) (pa_cons (pe_lst (pa_cons (pe_tup (pa_cons pe_int (pa_cons pe_int pa_nil))) (pa_cons (pe_tup (pa_cons (pe_op op_sub (pe_op op_mul pe_int (pv 11)) pe_int) (pa_cons pe_int pa_nil))) pa_nil))) (pa_cons pe_int pa_nil)))) (pe_op op_rep (pe_lst (pa_cons (pe_tup (pa_cons pe_int (pa_cons pe_int pa_nil))) (pa_cons (pe_tup (pa_cons (pe_op op_sub pe_int (pe_op op_mul pe_int (pv 11))) (pa_cons pe_int pa_nil))) pa_nil))) pe_int) (nomark _)))))), ?_⟩
    obtain ⟨cs, hcs⟩ := cut_ints ns (some 1) (some 6)
    have hcl := cutV_length (ns.map V.int) (some 1) (some 6)
    rw [List.length_map] at hcl
    refine ⟨_, rfl, a, ns, 0, rfl, hS, (by show 1 ≤ sizeLine; decide), fun l0 h0 => ?_⟩
    have s0 := same_new (o := .lst [V.int (ns.getD 0 0)]) h0
    refine ⟨_, rfl, _, rfl, _, rfl, a, _, rfl, s0.seq hS, fun l1 h1 => ?_⟩
    rw [hcs]
    rw [hcs, List.length_map] at hcl
    have s1 := same_new (o := .lst (cs.map V.int)) h1
    refine ⟨l0, l1, _, _, rfl, rfl, s1 _ _ upd_same, upd_same, Nat.le_trans (show 1 + (cs.map V.int).length ≤ 1000 by rw [List.length_map]; omega) (by decide), fun L hL => ?_⟩
    have eL : [V.int (ns.getD 0 0)] ++ cs.map V.int = (ns.getD 0 0 :: cs).map V.int := rfl
    rw [eL]
    clear eL
    have sL := same_new (o := .lst ((ns.getD 0 0 :: cs).map V.int)) hL
    have SL := s0.trans (s1.trans sL)
    refine ⟨L, rfl, ⟨_, SqL.of upd_same⟩, for_list (K := K) (a := L) (xs := (ns.getD 0 0 :: cs).map V.int) (fun i σ H' => H' L = some (.lst ((ns.getD 0 0 :: cs).map V.int)) ∧ LamX.ExtN H H' ∧ LamX.Tabs (TT15 Pt Pb) H' ∧ ∃ y1 y2 y3 y4 y5 y6 y7 y8 y9 y10 y11 y12 y13 y14 : Option V, σ = [some (.ref a), y1, y2, y3, y4, y5, y6, y7, y8, y9, y10, y11, y12, y13, y14]) ⟨upd_same, LamX.ExtN.of SL, LamX.Tabs.ext hT SL, none, none, none, none, none, none, none, none, none, none, none, none, none, none, rfl⟩ (fun i σ H' _ hP => SqL.of hP.1) (fun i x σ H0 hx hP => ?_) (fun σ H' hP => ?_)⟩
    · obtain ⟨l00, E0', T0, y1, y2, y3, y4, y5, y6, y7, y8, y9, y10, y11, y12, y13, y14, rfl⟩ := hP
      rw [List.getElem?_map] at hx
      obtain ⟨cell, _, rfl⟩ := Option.map_eq_some_iff.mp hx
      generalize (ns.getD 0 0 :: cs).map V.int = cells at *
      refine ⟨_, rfl, cell, rfl, fun ww hp H1 s1 w1 => ?_⟩
      have nL : L ≠ ww := ne_of_none l00 hp
      refine ⟨_, rfl, ww, 0, 4, rfl, w1, by omega, by decide, by decide, fun r2 H2 r20 r21 d2 f2 w2 => ⟨_, _, rfl, rfl, ⟨by decide, by decide⟩, ?_⟩⟩
      refine ⟨_, rfl, _, rfl, ww, 0 + 1, 6, rfl, w2, by omega, by decide, by decide, fun r3 H3 r30 r31 d3 f3 w3 => ⟨_, rfl, ?_⟩⟩
      refine ⟨ww, 0 + 1 + 1, _, r3.toNat, (by rw [show ((r3.toNat : Nat) : Int) = r3 by omega]; rfl), w3, by omega, by omega, fun pt t H4 hp4 d4 w4 Ft lt st => ?_⟩
      refine ⟨_, rfl, _, rfl, ww, 0 + 1 + 1 + 100, 4, rfl, w4, by omega, by decide, by decide, fun r5 H5 r50 r51 d5 f5 w5 => ⟨_, _, rfl, rfl, _, rfl, ?_⟩⟩
      refine ⟨ww, 0 + 1 + 1 + 100 + 1, _, (1 + r5).toNat, (by rw [show (((1 + r5).toNat : Nat) : Int) = 1 + r5 by omega]; rfl), w5, by omega, by omega, by omega, fun pu u H6 hp6 d6 w6 Fu lu su nu => ?_⟩
      refine ⟨_, rfl, _, rfl, ww, 0 + 1 + 1 + 100 + 1 + 200, 9, rfl, w6, by omega, by decide, by decide, fun r7 H7 r70 r71 d7 f7 w7 => ⟨_, rfl, ?_⟩⟩
      refine ⟨ww, 0 + 1 + 1 + 100 + 1 + 200 + 1, _, r7.toNat, (by rw [show ((r7.toNat : Nat) : Int) = r7 by omega]; rfl), w7, by omega, by omega, fun px x H8 hp8 d8 w8 Fx lx sx => ?_⟩
      obtain ⟨vx0, ex0, lvx0, _⟩ := Fx.len
      refine ⟨_, rfl, _, rfl, px, _, rfl, .inl (SqL.of ex0), ?_⟩
      refine ⟨ww, 0 + 1 + 1 + 100 + 1 + 200 + 1 + 100, 0, x.length, (by rw [lvx0]; rfl), w8, by omega, by omega, fun po y H9 hp9 d9 w9 Fy ly sy => ?_⟩
      have Ft9 := (((((Ft.well d5 w4 (Ft.nw w4)).well d6 w5 ((Ft.well d5 w4 (Ft.nw w4)).nw w5))).well d7 w6 (w3.ne hp4)).well d8 w7 (w3.ne hp4)).well d9 w8 (w3.ne hp4)
      have Fu9 := ((Fu.well d7 w6 (w5.ne hp6)).well d8 w7 (w5.ne hp6)).well d9 w8 (w5.ne hp6)
      have Fx9 := Fx.well d9 w8 (w7.ne hp8)
      have dd : SameBut ww H1 H9 := d2.trans (d3.trans (d4.trans (d5.trans (d6.trans (d7.trans (d8.trans d9))))))
      have k9 : LamX.ExtN H0 H9 := fun b o e _ => dd _ _ (ne_of_none e hp) (s1 _ _ e)
      have T9 : LamX.Tabs (TT15 Pt Pb) H9 := tabs_but (LamX.Tabs.ext T0 s1) dd w1
      obtain ⟨vt, et, _, _⟩ := Ft9.len
      refine ⟨_, rfl, pt, vt, rfl, .inl (SqL.of et), fun h0 hh0 => ?_⟩
      have q0 := same_new (o := .lst vt) hh0
      have C0 := FrL.copy et Ft9 hh0
      obtain ⟨vu, eu, _, _⟩ := (Fu9.same q0).len
      refine ⟨_, rfl, pu, vu, rfl, .inl (SqL.of eu), fun h1 hh1 => ?_⟩
      have q1 := same_new (o := .lst vu) hh1
      have C1 := FrL.copy eu (Fu9.same q0) hh1
      obtain ⟨vx, ex, _, _⟩ := (Fx9.same (q0.trans q1)).len
      refine ⟨_, rfl, px, vx, rfl, .inl (SqL.of ex), fun h2 hh2 => ?_⟩
      have q2 := same_new (o := .lst vx) hh2
      have C2 := FrL.copy ex (Fx9.same (q0.trans q1)) hh2
      refine ⟨(by show 3 ≤ sizeLine; decide), fun Lh hLh => ?_⟩
      have q4 := same_new (o := .lst [.ref h0, .ref h1, .ref h2]) hLh
      have Q4 := q0.trans (q1.trans (q2.trans q4))
      have B : Bag (TT15 Pt Pb) H0 ww Lh h0 h1 h2 pt pu px po t u x y (0 + 1 + 1 + 100 + 1 + 200 + 1 + 100 + 100) (upd _ Lh (.lst [.ref h0, .ref h1, .ref h2])) := ⟨hp, k9.trans (LamX.ExtN.of Q4), LamX.Tabs.ext T9 Q4, w9.same Q4, upd_same, C0.same (q1.trans (q2.trans q4)), C1.same (q2.trans q4), C2.same q4, Ft9.same Q4, Fu9.same Q4, Fx9.same Q4, Fy.same Q4⟩
      generalize hX : upd _ Lh _ = GX at B ⊢
      clear hX Q4 q4 q2 q1 q0 C0 C1 C2 et eu ex hh0 hh1 hh2 hLh k9 T9 dd Ft9 Fu9 Fx9 Ft Fu Fx Fy ex0 lvx0 d2 d3 d4 d5 d6 d7 d8 d9 w1 w2 w3 w4 w5 w6 w7 w8 w9 f2 f3 f5 f7
      have lt5 : t.length ≤ 5 := by omega
      have lu4 : u.length ≤ 4 := by omega
      have lx8 : x.length ≤ 8 := by omega
      have m2 : ∀ q, Sc 2520 2520000000000 q → Sc 2520 (2 * M15) q := fun q hq => hq.mono (by decide)
      have ok : Ok15 t u x := ⟨st, su, fun q hq => m2 q (sx q hq), lt5, lu4, by omega, nu⟩
      have okY : Ok15 t u y := ⟨st, su, fun q hq => m2 q (sy q hq), lt5, lu4, by omega, nu⟩
      obtain ⟨β0, hR⟩ := ok.rsp
      have pwn := hR.pw (show x.length ≤ x.length + 1 by omega)
      have bne : β0 ^ x.length ≠ 0 := Int.pow_ne_zero hR.b0
      have hrow : ∀ q ∈ ansL t u x, Sc (β0 ^ x.length) (C15 ^ x.length) q := hR.row (Nat.le_refl _)
      refine ⟨_, rfl, _, rfl, _, rfl, pt, pu, px, t, u, x, rfl, B.e0, B.e1, B.e2, ok, fun pd Hd hpd sd hFd => ?_⟩
      replace B := B.same sd
      have b1 : Bnd 2520 M15 t := ⟨by decide, up (show (2520 : Int).natAbs < 2 ^ 12 by decide) (by decide), up (show M15 < 2 ^ 50 by decide) (by decide), st⟩
      have b2 : Bnd 2520 (2 * M15) x := ⟨by decide, up (show (2520 : Int).natAbs < 2 ^ 12 by decide) (by decide), up (show 2 * M15 < 2 ^ 50 by decide) (by decide), ok.sx⟩
      refine ⟨B.tb, fun fl G1 e1 T1 hfl iL => ⟨_, rfl, fl, .ref pd, _, rfl, iL, fun cd => ⟨pd, ansL t u x, rfl, hFd.ext e1, by rw [ans_len]; omega, fun y hy => up ((hrow y hy).bits bne (n := 900) pwn.2 pwn.1).2 (by decide), fun G Q' sG k => ?_, fun G2 s2 => ⟨_, rfl, iteF ?_⟩⟩⟩⟩
      · have Bg := (B.ext e1 T1).same sG
        have eL := Bg.eL
        exact ⟨_, rfl, Lh, _, 0, .ref h0, rfl, rfl, SqL.of eL, a0, _, rfl, Lh, _, 1, .ref h1, rfl, rfl, SqL.of eL, a1, _, rfl, Lh, _, 2, .ref h2, rfl, rfl, SqL.of eL, a2, h0, h1, h2, t, u, x, 6350400, β0, 2520, 2520, B15, C15, M15, 2 * M15, rfl, Bg.d0, Bg.d1, Bg.d2, b1, b2, hR, by omega, by omega, by omega, k⟩
      have hFd2 := (hFd.ext e1).same s2
      replace B := (B.ext e1 T1).same s2
      clear hFd iL hfl hpd sd e1 T1 s2
      refine ⟨_, rfl, _, rfl, _, rfl, _, rfl, (by show 3 ≤ sizeLine; decide), fun l3 hl3 => ?_⟩
      have s3 := same_new (o := .lst [.ref pt, .ref pu, .ref px]) hl3
      replace B := B.same s3
      refine ⟨.list (llD [t, u, x]), .list (llD [t, u, x]), .lst (SqL.of B.eL) (.cons B.d0.dp (.cons B.d1.dp (.cons B.d2.dp .nil))), .lst (SqL.of upd_same) (.cons B.e0.dp (.cons B.e1.dp (.cons B.e2.dp .nil))), ll_shaped _, ll_shaped _, _, rfl, ?_⟩
      rw [ll_eqv]
      refine iteF ?_
      have hFd3 := hFd2.same s3
      generalize hX : upd _ l3 _ = GX at B hFd3 ⊢
      clear hX hl3 s3 hFd2
      have eL := B.eL
      refine ⟨_, rfl, Lh, _, 0, .ref h0, rfl, rfl, SqL.of eL, a0, _, rfl, Lh, _, 1, .ref h1, rfl, rfl, SqL.of eL, a1, _, rfl, ww, 0 + 1 + 1 + 100 + 1 + 200 + 1 + 100 + 100, 9, rfl, B.wl, by omega, by decide, by decide, fun r4 G4 r40 r41 d4 f4 w4 => ?_⟩
      have hFd4 := hFd3.well d4 B.wl (hFd3.nw B.wl)
      replace B := B.draw d4 w4
      refine ⟨h0, h1, t, u, r4.toNat, (by rw [show ((r4.toNat : Nat) : Int) = r4 by omega]; rfl), B.d0, B.d1, ⟨st, su, fun q hq => absurd hq List.not_mem_nil, lt5, lu4, by decide, nu⟩, by omega, B.tb, fun G5 e5 T5 => ⟨_, rfl, iteF ?_⟩⟩
      have hFd5 := hFd4.ext e5
      replace B := B.ext e5 T5
      clear hFd4 hFd3 e5 T5 d4 f4 w4 eL
      refine ⟨_, rfl, _, rfl, Lh, _, rfl, SqL.of B.eL, fun l5 hl5 => ?_⟩
      have ec : cutV [V.ref h0, .ref h1, .ref h2] none (some 2) = [.ref h0, .ref h1] := cut_to (n := 2) (by show 2 ≤ 3; decide)
      rw [ec]
      have s5 := same_new (o := .lst [.ref h0, .ref h1]) hl5
      refine ⟨_, rfl, _, rfl, (by show 2 ≤ sizeLine; decide), fun l6 hl6 => ?_⟩
      have s6 := same_new (o := .lst [.ref pt, .ref pu]) hl6
      replace B := B.same (s5.trans s6)
      refine ⟨.list (llD [t, u]), .list (llD [t, u]), .lst (SqL.of (s6 _ _ upd_same)) (.cons B.d0.dp (.cons B.d1.dp .nil)), .lst (SqL.of upd_same) (.cons B.e0.dp (.cons B.e1.dp .nil)), ll_shaped _, ll_shaped _, _, rfl, ?_⟩
      rw [ll_eqv]
      refine iteF ?_
      have hFd6 := hFd5.same (s5.trans s6)
      generalize hX : upd _ l6 _ = GX at B hFd6 ⊢
      clear hX hl5 hl6 s5 s6 hFd5 ec
      -- the sums of the numbers that come
      obtain ⟨vx, ex, lvx, fx⟩ := B.e2.len
      obtain ⟨vy, ey, lvy, fy⟩ := B.e3.len
      refine ⟨_, rfl, _, rfl, px, po, vx, vy, rfl, .inl ⟨SqL.of ex, SqL.of ey, fun lb hlb => ?_⟩⟩
      refine lc_it (walk_zip (K := K) (a := px) (b := po) (xs := vx) (ys := vy) rfl) (fun i H2 => Same GX H2 ∧ FrL H2 lb (addL (x.take i) (y.take i))) ⟨same_new hlb, [], upd_same, .nil⟩ (fun i H2 _ hP => ⟨SqL.of (hP.1 _ _ ex), SqL.of (hP.1 _ _ ey)⟩) (fun i v H2 H3 hi hP hY => ?_) (fun H2 hP => ?_)
      · obtain ⟨z1, ws, hw, hps⟩ := hP
        obtain ⟨Tp, u1, v1, rfl, nT, rfl, e1, e2⟩ := hY
        obtain ⟨p, qx, rfl, hqx, hpp⟩ := FrsAt.get fx e1
        obtain ⟨r, qy, rfl, hqy, hrr⟩ := FrsAt.get fy e2
        have sN := same_new (o := .tup [.ref p, .ref r]) nT
        have S1 := z1.trans sN
        have hp3 := S1 _ _ hpp
        have hr3 := S1 _ _ hrr
        have hw3 := sN _ _ hw
        have ps3 := PrsAt.same hps sN
        have hwl := FrsAt.len hps
        have li : i < min vx.length vy.length := hi
        have tk : addL (x.take (i + 1)) (y.take (i + 1)) = addL (x.take i) (y.take i) ++ [qx + qy] := by
          rw [List.take_succ, List.take_succ, hqx, hqy, Option.toList_some, Option.toList_some]
          unfold addL
          rw [List.zipWith_append (by rw [List.length_take, List.length_take]; omega)]
          rfl
        have al : (addL (x.take i) (y.take i)).length ≤ 20 := by
          unfold addL
          rw [List.length_zipWith, List.length_take, List.length_take]
          omega
        have scx := sx qx (List.mem_of_getElem? hqx)
        have scy := sy qy (List.mem_of_getElem? hqy)
        refine ⟨Tp, [.ref p, .ref r], rfl, SqT.of upd_same, rfl, _, _, rfl, _, _, rfl, rfl, rfl, ?_⟩
        refine ⟨_, rfl, _, rfl, (by show 2 ≤ sizeLine; decide), fun l2 hl2 => ?_⟩
        have s2 := same_new (o := .lst [.ref p, .ref r]) hl2
        refine ⟨l2, _, [pr qx, pr qy], 2520, rfl, upd_same, .cons (s2 _ _ hp3) (.cons (s2 _ _ hr3) .nil), (by decide), (up (show (2520 : Int).natAbs < 2 ^ 12 by decide) (by decide)), fun k hk => ?_, by show 2 ≤ 100; decide, fun p6 H6 hp6 s6 hF6 => ?_⟩
        · simp only [List.mem_cons, List.not_mem_nil, or_false] at hk
          rcases hk with rfl | rfl
          · exact ⟨den_ge _, scx.den, Nat.lt_of_le_of_lt (scx.num (by decide)) (up (show M15 < 2 ^ 50 by decide) (by decide))⟩
          · exact ⟨den_ge _, scy.den, Nat.lt_of_le_of_lt (scy.num (by decide)) (up (show M15 < 2 ^ 50 by decide) (by decide))⟩
        · rw [two_sum] at hF6
          have hw6 := s6 _ _ (s2 _ _ hw3)
          refine ⟨_, hw6, small1000 (by omega), fun b o e => ?_, ws ++ [.ref p6], upd_same, ?_⟩
          · rw [upd_ne (ne_of_none e hlb)]
            exact s6 _ _ (s2 _ _ (S1 _ _ e))
          · rw [tk]
            refine FrsAt.app (PrsAt.but (PrsAt.same (PrsAt.same ps3 s2) s6) SameBut.upd hw6) (FrsAt.one ?_)
            show (upd H6 lb _) p6 = _
            rw [upd_ne (ne_of hF6 hw6 (fun z => nomatch z))]
            exact hF6
      obtain ⟨zb, hFb⟩ := hP
      have eb : (addL (x.take (min vx.length vy.length)) (y.take (min vx.length vy.length))) = addL x y := by
        rw [List.take_of_length_le (by omega), List.take_of_length_le (by omega)]
      rw [eb] at hFb
      replace B := B.same zb
      have hFd7 := hFd6.same zb
      clear hFd6 zb eb ex ey fx fy lvx lvy hlb
      obtain ⟨β1, hRY⟩ := okY.rsp
      have eβ := hR.same hRY
      subst eβ
      have hrowY : ∀ q ∈ ansL t u y, Sc (β0 ^ x.length) (C15 ^ x.length) q := fun q hq => by
        have := hRY.row (Nat.le_refl _) q hq
        rw [ly] at this
        exact this
      have b2Y : Bnd 2520 (2 * M15) y := ⟨by decide, up (show (2520 : Int).natAbs < 2 ^ 12 by decide) (by decide), up (show 2 * M15 < 2 ^ 50 by decide) (by decide), okY.sx⟩
      refine ⟨_, rfl, _, rfl, _, rfl, _, rfl, pt, pu, po, t, u, y, 6350400, β0, 2520, 2520, B15, C15, M15, 2 * M15, rfl, B.e0, B.e1, B.e3, b1, b2Y, hRY, by omega, by omega, by omega, fun pe He hpe se hFe => ?_⟩
      replace B := B.same se
      have hFd8 := hFd7.same se
      have hFb8 := hFb.same se
      obtain ⟨vd, ed, lvd, fd'⟩ := hFd8.len
      obtain ⟨ve, ee, lve, fe⟩ := hFe.len
      have lad : (ansL t u x).length = x.length := ans_len _ _ _
      have lae : (ansL t u y).length = y.length := ans_len _ _ _
      refine ⟨pd, pe, vd, ve, rfl, .inl ⟨SqL.of ed, SqL.of ee, fun ls hls => ?_⟩⟩
      refine lc_it (walk_zip (K := K) (a := pd) (b := pe) (xs := vd) (ys := ve) rfl) (fun i H2 => Same He H2 ∧ FrL H2 ls (addL ((ansL t u x).take i) ((ansL t u y).take i))) ⟨same_new hls, [], upd_same, .nil⟩ (fun i H2 _ hP => ⟨SqL.of (hP.1 _ _ ed), SqL.of (hP.1 _ _ ee)⟩) (fun i v H2 H3 hi hP hY => ?_) (fun H2 hP => ?_)
      · obtain ⟨z1, ws, hw, hps⟩ := hP
        obtain ⟨Tp, u1, v1, rfl, nT, rfl, e1, e2⟩ := hY
        obtain ⟨p, qx, rfl, hqx, hpp⟩ := FrsAt.get fd' e1
        obtain ⟨r, qy, rfl, hqy, hrr⟩ := FrsAt.get fe e2
        have sN := same_new (o := .tup [.ref p, .ref r]) nT
        have S1 := z1.trans sN
        have hp3 := S1 _ _ hpp
        have hr3 := S1 _ _ hrr
        have hw3 := sN _ _ hw
        have ps3 := PrsAt.same hps sN
        have hwl := FrsAt.len hps
        have li : i < min vd.length ve.length := hi
        have tk : addL ((ansL t u x).take (i + 1)) ((ansL t u y).take (i + 1)) = addL ((ansL t u x).take i) ((ansL t u y).take i) ++ [qx + qy] := by
          rw [List.take_succ, List.take_succ, hqx, hqy, Option.toList_some, Option.toList_some]
          unfold addL
          rw [List.zipWith_append (by rw [List.length_take, List.length_take]; omega)]
          rfl
        have al : (addL ((ansL t u x).take i) ((ansL t u y).take i)).length ≤ 20 := by
          unfold addL
          rw [List.length_zipWith, List.length_take, List.length_take]
          omega
        have scx := hrow qx (List.mem_of_getElem? hqx)
        have scy := hrowY qy (List.mem_of_getElem? hqy)
        refine ⟨Tp, [.ref p, .ref r], rfl, SqT.of upd_same, rfl, _, _, rfl, _, _, rfl, rfl, rfl, ?_⟩
        refine ⟨_, rfl, _, rfl, (by show 2 ≤ sizeLine; decide), fun l2 hl2 => ?_⟩
        have s2 := same_new (o := .lst [.ref p, .ref r]) hl2
        refine ⟨l2, _, [pr qx, pr qy], (β0 ^ x.length), rfl, upd_same, .cons (s2 _ _ hp3) (.cons (s2 _ _ hr3) .nil), bne, (up pwn.2 (by decide)), fun k hk => ?_, by show 2 ≤ 100; decide, fun p6 H6 hp6 s6 hF6 => ?_⟩
        · simp only [List.mem_cons, List.not_mem_nil, or_false] at hk
          rcases hk with rfl | rfl
          · exact ⟨den_ge _, scx.den, Nat.lt_of_le_of_lt (scx.num bne) (up pwn.1 (by decide))⟩
          · exact ⟨den_ge _, scy.den, Nat.lt_of_le_of_lt (scy.num bne) (up pwn.1 (by decide))⟩
        · rw [two_sum] at hF6
          have hw6 := s6 _ _ (s2 _ _ hw3)
          refine ⟨_, hw6, small1000 (by omega), fun b o e => ?_, ws ++ [.ref p6], upd_same, ?_⟩
          · rw [upd_ne (ne_of_none e hls)]
            exact s6 _ _ (s2 _ _ (S1 _ _ e))
          · rw [tk]
            refine FrsAt.app (PrsAt.but (PrsAt.same (PrsAt.same ps3 s2) s6) SameBut.upd hw6) (FrsAt.one ?_)
            show (upd H6 ls _) p6 = _
            rw [upd_ne (ne_of hF6 hw6 (fun z => nomatch z))]
            exact hF6
      obtain ⟨zs_, hFs⟩ := hP
      have es : (addL ((ansL t u x).take (min vd.length ve.length)) ((ansL t u y).take (min vd.length ve.length))) = addL (ansL t u x) (ansL t u y) := by
        rw [List.take_of_length_le (by omega), List.take_of_length_le (by omega)]
      rw [es, ← ans_add nu (by omega)] at hFs
      replace B := B.same zs_
      have hFd9 := hFd8.same zs_
      have hFb9 := hFb8.same zs_
      clear hFd8 hFb8 hFd7 hFb zs_ es ed ee fd' fe lvd lve hls se hpe hFe lad lae
      have okB : Ok15 t u (addL x y) := ⟨st, su, fun q hq => by
        obtain ⟨a1, h1, a2, h2, rfl⟩ := addL_mem hq
        exact ((sx a1 h1).add (sy a2 h2)).mono (by decide), lt5, lu4, by rw [addL_len (by omega)]; omega, nu⟩
      obtain ⟨β2, hRB⟩ := okB.rsp
      have lB : (addL x y).length = x.length := addL_len (by omega)
      have b2B : Bnd 2520 (2 * M15) (addL x y) := ⟨by decide, up (show (2520 : Int).natAbs < 2 ^ 12 by decide) (by decide), up (show 2 * M15 < 2 ^ 50 by decide) (by decide), okB.sx⟩
      refine ⟨_, rfl, _, rfl, _, rfl, pt, pu, lb, t, u, addL x y, 6350400, β2, 2520, 2520, B15, C15, M15, 2 * M15, rfl, B.e0, B.e1, hFb9, b1, b2B, hRB, by omega, by omega, by omega, fun pf Hf hpf sf hFf => ?_⟩
      refine ⟨_, rfl, .list ((ansL t u (addL x y)).map frD), .list ((ansL t u (addL x y)).map frD), hFf.dp, (hFs.same sf).dp, frL_shaped _, frL_shaped _, _, rfl, ?_⟩
      rw [frL_eqv, decide_eq_true rfl]
      refine iteF ?_
      replace B := B.same sf
      have hFd10 := hFd9.same sf
      clear hFd9 hFb9 hFf hFs hpf sf hRB b2B okB
      refine ⟨_, rfl, _, rfl, (by show 2 ≤ sizeLine; decide), fun p0 g0 => ⟨(by show 1 ≤ sizeLine; decide), fun l0' g1 => ⟨_, rfl, ?_⟩⟩⟩
      have v0 := same_new (o := .tup [.int 0, .int 1]) g0
      have v1 := same_new (o := .lst [.ref p0]) g1
      replace B := B.same (v0.trans v1)
      obtain ⟨vx, ex, lvx, fx⟩ := B.e2.len
      refine ⟨l0', px, _, _, rfl, rfl, upd_same, ex, Nat.le_trans (show 1 + vx.length ≤ 1000 by omega) (by decide), fun lc hlc => ?_⟩
      have v2 := same_new (o := .lst ([.ref p0] ++ vx)) hlc
      replace B := B.same v2
      have hFl : FrL _ lc (0 :: x) := ⟨_, upd_same (H := _) (a := lc) (o := .lst ([.ref p0] ++ vx)), FrsAt.app (qs := [0]) (FrsAt.one (nul_fr (v2 _ _ (v1 _ _ upd_same)))) (PrsAt.same fx v2)⟩
      have okL : Ok15 t u (0 :: x) := ⟨st, su, fun q hq => by
        rcases List.mem_cons.mp hq with rfl | h
        · exact .zero
        · exact ok.sx q h, lt5, lu4, by rw [List.length_cons]; omega, nu⟩
      obtain ⟨β3, hRL⟩ := okL.rsp
      have b2L : Bnd 2520 (2 * M15) (0 :: x) := ⟨by decide, up (show (2520 : Int).natAbs < 2 ^ 12 by decide) (by decide), up (show 2 * M15 < 2 ^ 50 by decide) (by decide), okL.sx⟩
      refine ⟨pt, pu, lc, t, u, 0 :: x, 6350400, β3, 2520, 2520, B15, C15, M15, 2 * M15, rfl, B.e0, B.e1, hFl, b1, b2L, hRL, by omega, by omega, by rw [List.length_cons]; omega, fun pg Hg hpg sg' hFg => ?_⟩
      rw [ans_later nu] at hFg
      obtain ⟨vg, eg, lvg, fg⟩ := hFg.len
      refine ⟨_, rfl, pg, _, rfl, SqL.of eg, fun pk hpk => ?_⟩
      have ec1 : cutV vg (some 1) none = vg.drop 1 := cut_one (by rw [lvg, List.length_cons]; omega)
      rw [ec1]
      have v3 := same_new (o := .lst (vg.drop 1)) hpk
      have hFd11 := hFd10.same ((v0.trans v1).trans (v2.trans (sg'.trans v3)))
      refine ⟨_, rfl, .list ((ansL t u x).map frD), .list ((ansL t u x).map frD), .lst (SqL.of upd_same) (FrsAt.dp (qs := ansL t u x) (FrsAt.drop (qs := 0 :: ansL t u x) (PrsAt.same fg v3) 1)), hFd11.dp, frL_shaped _, frL_shaped _, _, rfl, ?_⟩
      rw [frL_eqv, decide_eq_true rfl]
      refine iteF ?_
      replace B := B.same (sg'.trans v3)
      generalize hX : upd _ pk _ = GX at B hFd11 ⊢
      clear hX ec1 v3 v2 v1 v0 hpk eg lvg fg hFg hpg sg' hRL b2L okL hFl hlc ex lvx fx g0 g1 hFd10
      refine ⟨B.tb, fun fl G1 e1 T1 hfl iL => ?_⟩
      replace B := B.ext e1 T1
      refine ⟨_, rfl, _, rfl, pt, px, t, x, 2520, 2520, M15, M15, rfl, B.e0, B.e2, ⟨by decide, by decide, by decide, st⟩, ⟨by decide, up (show (2520 : Int).natAbs < 2 ^ 12 by decide) (by decide), up (show M15 < 2 ^ 50 by decide) (by decide), sx⟩, by omega, by omega, fun pm Hm hpm sm hFm => ?_⟩
      replace B := B.same sm
      have lm := mulR_len t x
      refine ⟨fl, .ref pm, _, rfl, iL.ext (LamX.ExtN.of sm), fun cd => ⟨pm, mulR t x, rfl, hFm, by omega, fun y hy => ?_, fun G Q' sG k => ?_, fun G2 s2 => ⟨_, rfl, iteF ?_⟩⟩⟩
      · obtain ⟨kk, rfl⟩ := mulR_mem hy
        exact up ((cv15 st ok.sx lt5 kk).bits (by decide) (n := 100) (by decide) (by decide)).2 (by decide)
      · have Bg := B.same sG
        have eL := Bg.eL
        exact ⟨_, rfl, Lh, _, 0, .ref h0, rfl, rfl, SqL.of eL, a0, _, rfl, Lh, _, 2, .ref h2, rfl, rfl, SqL.of eL, a2, h0, h2, t, x, 2520, 2520, M15, 2 * M15, rfl, Bg.d0, Bg.d2, b1, b2, by omega, by omega, k⟩
      replace B := B.same s2
      have eL := B.eL
      refine ⟨_, rfl, Lh, _, 0, .ref h0, rfl, rfl, SqL.of eL, a0, _, rfl, .list (t.map frD), .list (t.map frD), B.d0.dp, B.e0.dp, frL_shaped _, frL_shaped _, _, rfl, ?_⟩
      rw [frL_eqv, decide_eq_true rfl]
      refine iteF ⟨_, rfl, Lh, _, 2, .ref h2, rfl, rfl, SqL.of eL, a2, _, rfl, .list (x.map frD), .list (x.map frD), B.d2.dp, B.e2.dp, frL_shaped _, frL_shaped _, _, rfl, ?_⟩
      rw [frL_eqv, decide_eq_true rfl]
      refine iteF ?_
      exact ⟨B.k0 _ _ l00 (fun _ z => nomatch z), E0'.trans B.k0, B.tb, _, _, _, _, _, _, _, _, _, _, _, _, _, _, rfl⟩
    · obtain ⟨l00, E0', T0, y1, y2, y3, y4, y5, y6, y7, y8, y9, y10, y11, y12, y13, y14, rfl⟩ := hP
      refine ⟨_, rfl, a, ns, 0, rfl, sqL_ext hS E0', _, _, rfl, rfl, (by show (0 : Int) < 2; decide), ?_⟩
      have haf : ns.getD 0 0 % 2 = 0 ∨ ns.getD 0 0 % 2 = 1 := by omega
      rcases haf with haf | haf
      · refine ⟨(by show 2 ≤ sizeLine; decide), fun p1 g1 => ⟨(by show 1 ≤ sizeLine; decide), fun l1' g2 => ⟨(by show 2 ≤ sizeLine; decide), fun p2 g3 => ⟨_, rfl, _, _, rfl, rfl, .inl ⟨by decide, by decide⟩, _, _, rfl, rfl, (by show 2 ≤ sizeLine; decide), fun p3 g4 => ⟨(by show 2 ≤ sizeLine; decide), fun l2' g5 => ?_⟩⟩⟩⟩⟩
        have v1 := same_new (o := .tup [.int 1, .int 1]) g1
        have v2 := same_new (o := .lst [.ref p1]) g2
        have v3 := same_new (o := .tup [.int 1, .int 1]) g3
        have v4 := same_new (o := .tup [.int (2 * (ns.getD 0 0 % 2) - 1), .int 1]) g4
        have v5 := same_new (o := .lst [.ref p2, .ref p3]) g5
        refine ⟨l1', l2', [1], [1, -1], 200, 1, 1, 1, 6, rfl, ⟨_, (v3.trans (v4.trans v5)) _ _ upd_same, FrsAt.one (one_fr ((v2.trans (v3.trans (v4.trans v5))) _ _ upd_same))⟩, ⟨_, upd_same, FrsAt.app (qs := [1]) (FrsAt.one (one_fr ((v4.trans v5) _ _ upd_same))) (FrsAt.one (fr_m0 haf (v5 _ _ upd_same)))⟩, rspU sc_m1, by decide, by decide, by decide, fun pr_ Hr hpr sr hFr => ?_⟩
        rw [afar1] at hFr
        refine ⟨(by show 2 ≤ sizeLine; decide), fun p5 g6 => ⟨_, rfl, _, _, rfl, rfl, .inl ⟨by decide, by decide⟩, _, _, rfl, rfl, (by show 2 ≤ sizeLine; decide), fun p6 g7 => ⟨(by show 2 ≤ sizeLine; decide), fun l3' g8 => ?_⟩⟩⟩
        have v6 := same_new (o := .tup [.int 1, .int 1]) g6
        have v7 := same_new (o := .tup [.int (1 - 2 * (ns.getD 0 0 % 2)), .int 1]) g7
        have v8 := same_new (o := .lst [.ref p5, .ref p6]) g8
        refine ⟨l3', 100, _, rfl, rfl, upd_same, by decide, by decide, (by show 2 * 100 ≤ sizeLine; decide), fun l4' g9 => ?_⟩
        rw [show (100 : Int).toNat = 100 from rfl]
        have v9 := same_new (o := .lst (List.replicate 100 [V.ref p5, V.ref p6]).flatten) g9
        refine ⟨.list (((List.replicate 100 [(1 : Rat), 1]).flatten).map frD), .list (((List.replicate 100 [(1 : Rat), 1]).flatten).map frD), (hFr.same (v6.trans (v7.trans (v8.trans v9)))).dp, .lst (SqL.of upd_same) (FrsAt.dp (rep2_frs (one_fr ((v7.trans (v8.trans v9)) _ _ upd_same)) (fr_n0 haf ((v8.trans v9) _ _ upd_same)) 100)), frL_shaped _, frL_shaped _, ?_⟩
        rw [frL_eqv, decide_eq_true rfl]
        exact q _
      · refine ⟨(by show 2 ≤ sizeLine; decide), fun p1 g1 => ⟨(by show 1 ≤ sizeLine; decide), fun l1' g2 => ⟨(by show 2 ≤ sizeLine; decide), fun p2 g3 => ⟨_, rfl, _, _, rfl, rfl, .inl ⟨by decide, by decide⟩, _, _, rfl, rfl, (by show 2 ≤ sizeLine; decide), fun p3 g4 => ⟨(by show 2 ≤ sizeLine; decide), fun l2' g5 => ?_⟩⟩⟩⟩⟩
        have v1 := same_new (o := .tup [.int 1, .int 1]) g1
        have v2 := same_new (o := .lst [.ref p1]) g2
        have v3 := same_new (o := .tup [.int 1, .int 1]) g3
        have v4 := same_new (o := .tup [.int (2 * (ns.getD 0 0 % 2) - 1), .int 1]) g4
        have v5 := same_new (o := .lst [.ref p2, .ref p3]) g5
        refine ⟨l1', l2', [1], [1, 1], 200, 1, 1, 1, 6, rfl, ⟨_, (v3.trans (v4.trans v5)) _ _ upd_same, FrsAt.one (one_fr ((v2.trans (v3.trans (v4.trans v5))) _ _ upd_same))⟩, ⟨_, upd_same, FrsAt.app (qs := [1]) (FrsAt.one (one_fr ((v4.trans v5) _ _ upd_same))) (FrsAt.one (fr_m1 haf (v5 _ _ upd_same)))⟩, rspU sc_p1, by decide, by decide, by decide, fun pr_ Hr hpr sr hFr => ?_⟩
        rw [afar2] at hFr
        refine ⟨(by show 2 ≤ sizeLine; decide), fun p5 g6 => ⟨_, rfl, _, _, rfl, rfl, .inl ⟨by decide, by decide⟩, _, _, rfl, rfl, (by show 2 ≤ sizeLine; decide), fun p6 g7 => ⟨(by show 2 ≤ sizeLine; decide), fun l3' g8 => ?_⟩⟩⟩
        have v6 := same_new (o := .tup [.int 1, .int 1]) g6
        have v7 := same_new (o := .tup [.int (1 - 2 * (ns.getD 0 0 % 2)), .int 1]) g7
        have v8 := same_new (o := .lst [.ref p5, .ref p6]) g8
        refine ⟨l3', 100, _, rfl, rfl, upd_same, by decide, by decide, (by show 2 * 100 ≤ sizeLine; decide), fun l4' g9 => ?_⟩
        rw [show (100 : Int).toNat = 100 from rfl]
        have v9 := same_new (o := .lst (List.replicate 100 [V.ref p5, V.ref p6]).flatten) g9
        refine ⟨.list (((List.replicate 100 [(1 : Rat), -1]).flatten).map frD), .list (((List.replicate 100 [(1 : Rat), -1]).flatten).map frD), (hFr.same (v6.trans (v7.trans (v8.trans v9)))).dp, .lst (SqL.of upd_same) (FrsAt.dp (rep2_frs (one_fr ((v7.trans (v8.trans v9)) _ _ upd_same)) (fr_n1 haf ((v8.trans v9) _ _ upd_same)) 100)), frL_shaped _, frL_shaped _, ?_⟩
        rw [frL_eqv, decide_eq_true rfl]
        exact q _
end
end E1

namespace E1
open PySem PySem.Spec PyProof.Rows L2
theorem tabs0 {H : Hp} {P1 P2 : Addr} (h1 : H P1 = some (.tbl #[])) (h2 : H P2 = some (.tbl #[])) : LamX.Tabs (TT15 P1 P2) H := fun p hp => by
  rcases List.mem_cons.mp hp with rfl | hp
  · exact ⟨_, h1, (by first | exact trivial | decide | exact .nil), fun _ _ z => by cases z⟩
  · rw [List.mem_singleton.mp hp]
    exact ⟨_, h2, (by first | exact trivial | decide | exact .nil), fun _ _ z => by cases z⟩
theorem gotTwo_of {K : PySem.W.Frag} {mg : Str → Option Value} {x a b : Str} {st : Stmt} {Ng : List Str} {g : Addr} {fd : FuncData} (F : Fun K x x st g fd) (gm : mg x = some (.ref g)) (hb : Binds K fd [a, b] []) (sc : FnScope Ng [a, b] (defScope st)) (n0 : Ng[0]? = some a) (vs : Vis (defScope st) a) : ∃ cdg, GotTwo K mg x a b st Ng g cdg := by
  have kp := F.kp
  obtain ⟨_, _, _, _, _, _, cdv, _, _, e, l1, l2⟩ := F.ex
  subst e
  exact ⟨cdv, gm, kp, ⟨_, _, _, _, _, _, _, _, _, l1, hb⟩, l2, sc, n0, vs⟩
theorem all_mk {l : PySem.W.OpenLaw} {w : World} {K : PySem.W.Frag} {h : Heap} {mg : Str → Option Value} {fa : Addr} {f_is_whole f_is_fraction f_shared_divisor f_lowest f_minus f_divided f_is_fractions f_common_bottom f_cleared f_sum_of_products f_is_bottom f_check_series f_check_bottom f_place_of f_product_place f_first_places f_product_of f_quotient f_response f_answered f__law_cell_at f__law_well f__law_draw f__law_one f__law_low f__law_sum f__law_place f__law_series f__law_bottom f__law_plain f__law_answers f__law_multiplied f__law_same f_by c_by P_by f_law c_law P_law A_NOUGHT : Addr} (X : K.In h) (G : h.Ns mainGlobals mg) (hfa : mg "law" = some (.ref fa))
    {od_is_whole an_is_whole : Option Addr} {sl_is_whole : Array (Option Value)} {oc_is_whole kV_is_whole dc_is_whole pm_is_whole cd_is_whole ct_is_whole : Value}
    (a_is_whole : PySem.W.nsIn K mainGlobals "is_whole" = some (some (.ref f_is_whole)))
    (l_is_whole : K.lookup f_is_whole = some ⟨oc_is_whole, od_is_whole, .func (PySem.W.fnOf "is_whole" "is_whole" (defArgs s_is_whole) (defBody s_is_whole) (defScope s_is_whole) .none kV_is_whole dc_is_whole pm_is_whole an_is_whole cd_is_whole ct_is_whole), sl_is_whole⟩)
    (c_is_whole : PySem.W.codeIn K cd_is_whole "is_whole" = true)
    (k_is_whole : PySem.W.keepIn K (.ref f_is_whole) = true)
    {od_is_fraction an_is_fraction : Option Addr} {sl_is_fraction : Array (Option Value)} {oc_is_fraction kV_is_fraction dc_is_fraction pm_is_fraction cd_is_fraction ct_is_fraction : Value}
    (a_is_fraction : PySem.W.nsIn K mainGlobals "is_fraction" = some (some (.ref f_is_fraction)))
    (l_is_fraction : K.lookup f_is_fraction = some ⟨oc_is_fraction, od_is_fraction, .func (PySem.W.fnOf "is_fraction" "is_fraction" (defArgs s_is_fraction) (defBody s_is_fraction) (defScope s_is_fraction) .none kV_is_fraction dc_is_fraction pm_is_fraction an_is_fraction cd_is_fraction ct_is_fraction), sl_is_fraction⟩)
    (c_is_fraction : PySem.W.codeIn K cd_is_fraction "is_fraction" = true)
    (k_is_fraction : PySem.W.keepIn K (.ref f_is_fraction) = true)
    {od_shared_divisor an_shared_divisor : Option Addr} {sl_shared_divisor : Array (Option Value)} {oc_shared_divisor kV_shared_divisor dc_shared_divisor pm_shared_divisor cd_shared_divisor ct_shared_divisor : Value}
    (a_shared_divisor : PySem.W.nsIn K mainGlobals "shared_divisor" = some (some (.ref f_shared_divisor)))
    (l_shared_divisor : K.lookup f_shared_divisor = some ⟨oc_shared_divisor, od_shared_divisor, .func (PySem.W.fnOf "shared_divisor" "shared_divisor" (defArgs s_shared_divisor) (defBody s_shared_divisor) (defScope s_shared_divisor) .none kV_shared_divisor dc_shared_divisor pm_shared_divisor an_shared_divisor cd_shared_divisor ct_shared_divisor), sl_shared_divisor⟩)
    (c_shared_divisor : PySem.W.codeIn K cd_shared_divisor "shared_divisor" = true)
    (k_shared_divisor : PySem.W.keepIn K (.ref f_shared_divisor) = true)
    {od_lowest an_lowest : Option Addr} {sl_lowest : Array (Option Value)} {oc_lowest kV_lowest dc_lowest pm_lowest cd_lowest ct_lowest : Value}
    (a_lowest : PySem.W.nsIn K mainGlobals "lowest" = some (some (.ref f_lowest)))
    (l_lowest : K.lookup f_lowest = some ⟨oc_lowest, od_lowest, .func (PySem.W.fnOf "lowest" "lowest" (defArgs s_lowest) (defBody s_lowest) (defScope s_lowest) .none kV_lowest dc_lowest pm_lowest an_lowest cd_lowest ct_lowest), sl_lowest⟩)
    (c_lowest : PySem.W.codeIn K cd_lowest "lowest" = true)
    (k_lowest : PySem.W.keepIn K (.ref f_lowest) = true)
    {od_minus an_minus : Option Addr} {sl_minus : Array (Option Value)} {oc_minus kV_minus dc_minus pm_minus cd_minus ct_minus : Value}
    (a_minus : PySem.W.nsIn K mainGlobals "minus" = some (some (.ref f_minus)))
    (l_minus : K.lookup f_minus = some ⟨oc_minus, od_minus, .func (PySem.W.fnOf "minus" "minus" (defArgs s_minus) (defBody s_minus) (defScope s_minus) .none kV_minus dc_minus pm_minus an_minus cd_minus ct_minus), sl_minus⟩)
    (c_minus : PySem.W.codeIn K cd_minus "minus" = true)
    (k_minus : PySem.W.keepIn K (.ref f_minus) = true)
    {od_divided an_divided : Option Addr} {sl_divided : Array (Option Value)} {oc_divided kV_divided dc_divided pm_divided cd_divided ct_divided : Value}
    (a_divided : PySem.W.nsIn K mainGlobals "divided" = some (some (.ref f_divided)))
    (l_divided : K.lookup f_divided = some ⟨oc_divided, od_divided, .func (PySem.W.fnOf "divided" "divided" (defArgs s_divided) (defBody s_divided) (defScope s_divided) .none kV_divided dc_divided pm_divided an_divided cd_divided ct_divided), sl_divided⟩)
    (c_divided : PySem.W.codeIn K cd_divided "divided" = true)
    (k_divided : PySem.W.keepIn K (.ref f_divided) = true)
    {od_is_fractions an_is_fractions : Option Addr} {sl_is_fractions : Array (Option Value)} {oc_is_fractions kV_is_fractions dc_is_fractions pm_is_fractions cd_is_fractions ct_is_fractions : Value}
    (a_is_fractions : PySem.W.nsIn K mainGlobals "is_fractions" = some (some (.ref f_is_fractions)))
    (l_is_fractions : K.lookup f_is_fractions = some ⟨oc_is_fractions, od_is_fractions, .func (PySem.W.fnOf "is_fractions" "is_fractions" (defArgs s_is_fractions) (defBody s_is_fractions) (defScope s_is_fractions) .none kV_is_fractions dc_is_fractions pm_is_fractions an_is_fractions cd_is_fractions ct_is_fractions), sl_is_fractions⟩)
    (c_is_fractions : PySem.W.codeIn K cd_is_fractions "is_fractions" = true)
    (k_is_fractions : PySem.W.keepIn K (.ref f_is_fractions) = true)
    {od_common_bottom an_common_bottom : Option Addr} {sl_common_bottom : Array (Option Value)} {oc_common_bottom kV_common_bottom dc_common_bottom pm_common_bottom cd_common_bottom ct_common_bottom : Value}
    (a_common_bottom : PySem.W.nsIn K mainGlobals "common_bottom" = some (some (.ref f_common_bottom)))
    (l_common_bottom : K.lookup f_common_bottom = some ⟨oc_common_bottom, od_common_bottom, .func (PySem.W.fnOf "common_bottom" "common_bottom" (defArgs s_common_bottom) (defBody s_common_bottom) (defScope s_common_bottom) .none kV_common_bottom dc_common_bottom pm_common_bottom an_common_bottom cd_common_bottom ct_common_bottom), sl_common_bottom⟩)
    (c_common_bottom : PySem.W.codeIn K cd_common_bottom "common_bottom" = true)
    (k_common_bottom : PySem.W.keepIn K (.ref f_common_bottom) = true)
    {od_cleared an_cleared : Option Addr} {sl_cleared : Array (Option Value)} {oc_cleared kV_cleared dc_cleared pm_cleared cd_cleared ct_cleared : Value}
    (a_cleared : PySem.W.nsIn K mainGlobals "cleared" = some (some (.ref f_cleared)))
    (l_cleared : K.lookup f_cleared = some ⟨oc_cleared, od_cleared, .func (PySem.W.fnOf "cleared" "cleared" (defArgs s_cleared) (defBody s_cleared) (defScope s_cleared) .none kV_cleared dc_cleared pm_cleared an_cleared cd_cleared ct_cleared), sl_cleared⟩)
    (c_cleared : PySem.W.codeIn K cd_cleared "cleared" = true)
    (k_cleared : PySem.W.keepIn K (.ref f_cleared) = true)
    {od_sum_of_products an_sum_of_products : Option Addr} {sl_sum_of_products : Array (Option Value)} {oc_sum_of_products kV_sum_of_products dc_sum_of_products pm_sum_of_products cd_sum_of_products ct_sum_of_products : Value}
    (a_sum_of_products : PySem.W.nsIn K mainGlobals "sum_of_products" = some (some (.ref f_sum_of_products)))
    (l_sum_of_products : K.lookup f_sum_of_products = some ⟨oc_sum_of_products, od_sum_of_products, .func (PySem.W.fnOf "sum_of_products" "sum_of_products" (defArgs s_sum_of_products) (defBody s_sum_of_products) (defScope s_sum_of_products) .none kV_sum_of_products dc_sum_of_products pm_sum_of_products an_sum_of_products cd_sum_of_products ct_sum_of_products), sl_sum_of_products⟩)
    (c_sum_of_products : PySem.W.codeIn K cd_sum_of_products "sum_of_products" = true)
    (k_sum_of_products : PySem.W.keepIn K (.ref f_sum_of_products) = true)
    {od_is_bottom an_is_bottom : Option Addr} {sl_is_bottom : Array (Option Value)} {oc_is_bottom kV_is_bottom dc_is_bottom pm_is_bottom cd_is_bottom ct_is_bottom : Value}
    (a_is_bottom : PySem.W.nsIn K mainGlobals "is_bottom" = some (some (.ref f_is_bottom)))
    (l_is_bottom : K.lookup f_is_bottom = some ⟨oc_is_bottom, od_is_bottom, .func (PySem.W.fnOf "is_bottom" "is_bottom" (defArgs s_is_bottom) (defBody s_is_bottom) (defScope s_is_bottom) .none kV_is_bottom dc_is_bottom pm_is_bottom an_is_bottom cd_is_bottom ct_is_bottom), sl_is_bottom⟩)
    (c_is_bottom : PySem.W.codeIn K cd_is_bottom "is_bottom" = true)
    (k_is_bottom : PySem.W.keepIn K (.ref f_is_bottom) = true)
    {od_check_series an_check_series : Option Addr} {sl_check_series : Array (Option Value)} {oc_check_series kV_check_series dc_check_series pm_check_series cd_check_series ct_check_series : Value}
    (a_check_series : PySem.W.nsIn K mainGlobals "check_series" = some (some (.ref f_check_series)))
    (l_check_series : K.lookup f_check_series = some ⟨oc_check_series, od_check_series, .func (PySem.W.fnOf "check_series" "check_series" (defArgs s_check_series) (defBody s_check_series) (defScope s_check_series) .none kV_check_series dc_check_series pm_check_series an_check_series cd_check_series ct_check_series), sl_check_series⟩)
    (c_check_series : PySem.W.codeIn K cd_check_series "check_series" = true)
    (k_check_series : PySem.W.keepIn K (.ref f_check_series) = true)
    {od_check_bottom an_check_bottom : Option Addr} {sl_check_bottom : Array (Option Value)} {oc_check_bottom kV_check_bottom dc_check_bottom pm_check_bottom cd_check_bottom ct_check_bottom : Value}
    (a_check_bottom : PySem.W.nsIn K mainGlobals "check_bottom" = some (some (.ref f_check_bottom)))
    (l_check_bottom : K.lookup f_check_bottom = some ⟨oc_check_bottom, od_check_bottom, .func (PySem.W.fnOf "check_bottom" "check_bottom" (defArgs s_check_bottom) (defBody s_check_bottom) (defScope s_check_bottom) .none kV_check_bottom dc_check_bottom pm_check_bottom an_check_bottom cd_check_bottom ct_check_bottom), sl_check_bottom⟩)
    (c_check_bottom : PySem.W.codeIn K cd_check_bottom "check_bottom" = true)
    (k_check_bottom : PySem.W.keepIn K (.ref f_check_bottom) = true)
    {od_place_of an_place_of : Option Addr} {sl_place_of : Array (Option Value)} {oc_place_of kV_place_of dc_place_of pm_place_of cd_place_of ct_place_of : Value}
    (a_place_of : PySem.W.nsIn K mainGlobals "place_of" = some (some (.ref f_place_of)))
    (l_place_of : K.lookup f_place_of = some ⟨oc_place_of, od_place_of, .func (PySem.W.fnOf "place_of" "place_of" (defArgs s_place_of) (defBody s_place_of) (defScope s_place_of) .none kV_place_of dc_place_of pm_place_of an_place_of cd_place_of ct_place_of), sl_place_of⟩)
    (c_place_of : PySem.W.codeIn K cd_place_of "place_of" = true)
    (k_place_of : PySem.W.keepIn K (.ref f_place_of) = true)
    {od_product_place an_product_place : Option Addr} {sl_product_place : Array (Option Value)} {oc_product_place kV_product_place dc_product_place pm_product_place cd_product_place ct_product_place : Value}
    (a_product_place : PySem.W.nsIn K mainGlobals "product_place" = some (some (.ref f_product_place)))
    (l_product_place : K.lookup f_product_place = some ⟨oc_product_place, od_product_place, .func (PySem.W.fnOf "product_place" "product_place" (defArgs s_product_place) (defBody s_product_place) (defScope s_product_place) .none kV_product_place dc_product_place pm_product_place an_product_place cd_product_place ct_product_place), sl_product_place⟩)
    (c_product_place : PySem.W.codeIn K cd_product_place "product_place" = true)
    (k_product_place : PySem.W.keepIn K (.ref f_product_place) = true)
    {od_first_places an_first_places : Option Addr} {sl_first_places : Array (Option Value)} {oc_first_places kV_first_places dc_first_places pm_first_places cd_first_places ct_first_places : Value}
    (a_first_places : PySem.W.nsIn K mainGlobals "first_places" = some (some (.ref f_first_places)))
    (l_first_places : K.lookup f_first_places = some ⟨oc_first_places, od_first_places, .func (PySem.W.fnOf "first_places" "first_places" (defArgs s_first_places) (defBody s_first_places) (defScope s_first_places) .none kV_first_places dc_first_places pm_first_places an_first_places cd_first_places ct_first_places), sl_first_places⟩)
    (c_first_places : PySem.W.codeIn K cd_first_places "first_places" = true)
    (k_first_places : PySem.W.keepIn K (.ref f_first_places) = true)
    {od_product_of an_product_of : Option Addr} {sl_product_of : Array (Option Value)} {oc_product_of kV_product_of dc_product_of pm_product_of cd_product_of ct_product_of : Value}
    (a_product_of : PySem.W.nsIn K mainGlobals "product_of" = some (some (.ref f_product_of)))
    (l_product_of : K.lookup f_product_of = some ⟨oc_product_of, od_product_of, .func (PySem.W.fnOf "product_of" "product_of" (defArgs s_product_of) (defBody s_product_of) (defScope s_product_of) .none kV_product_of dc_product_of pm_product_of an_product_of cd_product_of ct_product_of), sl_product_of⟩)
    (c_product_of : PySem.W.codeIn K cd_product_of "product_of" = true)
    (k_product_of : PySem.W.keepIn K (.ref f_product_of) = true)
    {od_quotient an_quotient : Option Addr} {sl_quotient : Array (Option Value)} {oc_quotient kV_quotient dc_quotient pm_quotient cd_quotient ct_quotient : Value}
    (a_quotient : PySem.W.nsIn K mainGlobals "quotient" = some (some (.ref f_quotient)))
    (l_quotient : K.lookup f_quotient = some ⟨oc_quotient, od_quotient, .func (PySem.W.fnOf "quotient" "quotient" (defArgs s_quotient) (defBody s_quotient) (defScope s_quotient) .none kV_quotient dc_quotient pm_quotient an_quotient cd_quotient ct_quotient), sl_quotient⟩)
    (c_quotient : PySem.W.codeIn K cd_quotient "quotient" = true)
    (k_quotient : PySem.W.keepIn K (.ref f_quotient) = true)
    {od_response an_response : Option Addr} {sl_response : Array (Option Value)} {oc_response kV_response dc_response pm_response cd_response ct_response : Value}
    (a_response : PySem.W.nsIn K mainGlobals "response" = some (some (.ref f_response)))
    (l_response : K.lookup f_response = some ⟨oc_response, od_response, .func (PySem.W.fnOf "response" "response" (defArgs s_response) (defBody s_response) (defScope s_response) .none kV_response dc_response pm_response an_response cd_response ct_response), sl_response⟩)
    (c_response : PySem.W.codeIn K cd_response "response" = true)
    (k_response : PySem.W.keepIn K (.ref f_response) = true)
    {od_answered an_answered : Option Addr} {sl_answered : Array (Option Value)} {oc_answered kV_answered dc_answered pm_answered cd_answered ct_answered : Value}
    (a_answered : PySem.W.nsIn K mainGlobals "answered" = some (some (.ref f_answered)))
    (l_answered : K.lookup f_answered = some ⟨oc_answered, od_answered, .func (PySem.W.fnOf "answered" "answered" (defArgs s_answered) (defBody s_answered) (defScope s_answered) .none kV_answered dc_answered pm_answered an_answered cd_answered ct_answered), sl_answered⟩)
    (c_answered : PySem.W.codeIn K cd_answered "answered" = true)
    (k_answered : PySem.W.keepIn K (.ref f_answered) = true)
    {od__law_cell_at an__law_cell_at : Option Addr} {sl__law_cell_at : Array (Option Value)} {oc__law_cell_at kV__law_cell_at dc__law_cell_at pm__law_cell_at cd__law_cell_at ct__law_cell_at : Value}
    (a__law_cell_at : PySem.W.nsIn K mainGlobals "_law_cell_at" = some (some (.ref f__law_cell_at)))
    (l__law_cell_at : K.lookup f__law_cell_at = some ⟨oc__law_cell_at, od__law_cell_at, .func (PySem.W.fnOf "_law_cell_at" "_law_cell_at" (defArgs s__law_cell_at) (defBody s__law_cell_at) (defScope s__law_cell_at) .none kV__law_cell_at dc__law_cell_at pm__law_cell_at an__law_cell_at cd__law_cell_at ct__law_cell_at), sl__law_cell_at⟩)
    (c__law_cell_at : PySem.W.codeIn K cd__law_cell_at "_law_cell_at" = true)
    (k__law_cell_at : PySem.W.keepIn K (.ref f__law_cell_at) = true)
    {od__law_well an__law_well : Option Addr} {sl__law_well : Array (Option Value)} {oc__law_well kV__law_well dc__law_well pm__law_well cd__law_well ct__law_well : Value}
    (a__law_well : PySem.W.nsIn K mainGlobals "_law_well" = some (some (.ref f__law_well)))
    (l__law_well : K.lookup f__law_well = some ⟨oc__law_well, od__law_well, .func (PySem.W.fnOf "_law_well" "_law_well" (defArgs s__law_well) (defBody s__law_well) (defScope s__law_well) .none kV__law_well dc__law_well pm__law_well an__law_well cd__law_well ct__law_well), sl__law_well⟩)
    (c__law_well : PySem.W.codeIn K cd__law_well "_law_well" = true)
    (k__law_well : PySem.W.keepIn K (.ref f__law_well) = true)
    {od__law_draw an__law_draw : Option Addr} {sl__law_draw : Array (Option Value)} {oc__law_draw kV__law_draw dc__law_draw pm__law_draw cd__law_draw ct__law_draw : Value}
    (a__law_draw : PySem.W.nsIn K mainGlobals "_law_draw" = some (some (.ref f__law_draw)))
    (l__law_draw : K.lookup f__law_draw = some ⟨oc__law_draw, od__law_draw, .func (PySem.W.fnOf "_law_draw" "_law_draw" (defArgs s__law_draw) (defBody s__law_draw) (defScope s__law_draw) .none kV__law_draw dc__law_draw pm__law_draw an__law_draw cd__law_draw ct__law_draw), sl__law_draw⟩)
    (c__law_draw : PySem.W.codeIn K cd__law_draw "_law_draw" = true)
    (k__law_draw : PySem.W.keepIn K (.ref f__law_draw) = true)
    {od__law_one an__law_one : Option Addr} {sl__law_one : Array (Option Value)} {oc__law_one kV__law_one dc__law_one pm__law_one cd__law_one ct__law_one : Value}
    (a__law_one : PySem.W.nsIn K mainGlobals "_law_one" = some (some (.ref f__law_one)))
    (l__law_one : K.lookup f__law_one = some ⟨oc__law_one, od__law_one, .func (PySem.W.fnOf "_law_one" "_law_one" (defArgs s__law_one) (defBody s__law_one) (defScope s__law_one) .none kV__law_one dc__law_one pm__law_one an__law_one cd__law_one ct__law_one), sl__law_one⟩)
    (c__law_one : PySem.W.codeIn K cd__law_one "_law_one" = true)
    (k__law_one : PySem.W.keepIn K (.ref f__law_one) = true)
    {od__law_low an__law_low : Option Addr} {sl__law_low : Array (Option Value)} {oc__law_low kV__law_low dc__law_low pm__law_low cd__law_low ct__law_low : Value}
    (a__law_low : PySem.W.nsIn K mainGlobals "_law_low" = some (some (.ref f__law_low)))
    (l__law_low : K.lookup f__law_low = some ⟨oc__law_low, od__law_low, .func (PySem.W.fnOf "_law_low" "_law_low" (defArgs s__law_low) (defBody s__law_low) (defScope s__law_low) .none kV__law_low dc__law_low pm__law_low an__law_low cd__law_low ct__law_low), sl__law_low⟩)
    (c__law_low : PySem.W.codeIn K cd__law_low "_law_low" = true)
    (k__law_low : PySem.W.keepIn K (.ref f__law_low) = true)
    {od__law_sum an__law_sum : Option Addr} {sl__law_sum : Array (Option Value)} {oc__law_sum kV__law_sum dc__law_sum pm__law_sum cd__law_sum ct__law_sum : Value}
    (a__law_sum : PySem.W.nsIn K mainGlobals "_law_sum" = some (some (.ref f__law_sum)))
    (l__law_sum : K.lookup f__law_sum = some ⟨oc__law_sum, od__law_sum, .func (PySem.W.fnOf "_law_sum" "_law_sum" (defArgs s__law_sum) (defBody s__law_sum) (defScope s__law_sum) .none kV__law_sum dc__law_sum pm__law_sum an__law_sum cd__law_sum ct__law_sum), sl__law_sum⟩)
    (c__law_sum : PySem.W.codeIn K cd__law_sum "_law_sum" = true)
    (k__law_sum : PySem.W.keepIn K (.ref f__law_sum) = true)
    {od__law_place an__law_place : Option Addr} {sl__law_place : Array (Option Value)} {oc__law_place kV__law_place dc__law_place pm__law_place cd__law_place ct__law_place : Value}
    (a__law_place : PySem.W.nsIn K mainGlobals "_law_place" = some (some (.ref f__law_place)))
    (l__law_place : K.lookup f__law_place = some ⟨oc__law_place, od__law_place, .func (PySem.W.fnOf "_law_place" "_law_place" (defArgs s__law_place) (defBody s__law_place) (defScope s__law_place) .none kV__law_place dc__law_place pm__law_place an__law_place cd__law_place ct__law_place), sl__law_place⟩)
    (c__law_place : PySem.W.codeIn K cd__law_place "_law_place" = true)
    (k__law_place : PySem.W.keepIn K (.ref f__law_place) = true)
    {od__law_series an__law_series : Option Addr} {sl__law_series : Array (Option Value)} {oc__law_series kV__law_series dc__law_series pm__law_series cd__law_series ct__law_series : Value}
    (a__law_series : PySem.W.nsIn K mainGlobals "_law_series" = some (some (.ref f__law_series)))
    (l__law_series : K.lookup f__law_series = some ⟨oc__law_series, od__law_series, .func (PySem.W.fnOf "_law_series" "_law_series" (defArgs s__law_series) (defBody s__law_series) (defScope s__law_series) .none kV__law_series dc__law_series pm__law_series an__law_series cd__law_series ct__law_series), sl__law_series⟩)
    (c__law_series : PySem.W.codeIn K cd__law_series "_law_series" = true)
    (k__law_series : PySem.W.keepIn K (.ref f__law_series) = true)
    {od__law_bottom an__law_bottom : Option Addr} {sl__law_bottom : Array (Option Value)} {oc__law_bottom kV__law_bottom dc__law_bottom pm__law_bottom cd__law_bottom ct__law_bottom : Value}
    (a__law_bottom : PySem.W.nsIn K mainGlobals "_law_bottom" = some (some (.ref f__law_bottom)))
    (l__law_bottom : K.lookup f__law_bottom = some ⟨oc__law_bottom, od__law_bottom, .func (PySem.W.fnOf "_law_bottom" "_law_bottom" (defArgs s__law_bottom) (defBody s__law_bottom) (defScope s__law_bottom) .none kV__law_bottom dc__law_bottom pm__law_bottom an__law_bottom cd__law_bottom ct__law_bottom), sl__law_bottom⟩)
    (c__law_bottom : PySem.W.codeIn K cd__law_bottom "_law_bottom" = true)
    (k__law_bottom : PySem.W.keepIn K (.ref f__law_bottom) = true)
    {od__law_plain an__law_plain : Option Addr} {sl__law_plain : Array (Option Value)} {oc__law_plain kV__law_plain dc__law_plain pm__law_plain cd__law_plain ct__law_plain : Value}
    (a__law_plain : PySem.W.nsIn K mainGlobals "_law_plain" = some (some (.ref f__law_plain)))
    (l__law_plain : K.lookup f__law_plain = some ⟨oc__law_plain, od__law_plain, .func (PySem.W.fnOf "_law_plain" "_law_plain" (defArgs s__law_plain) (defBody s__law_plain) (defScope s__law_plain) .none kV__law_plain dc__law_plain pm__law_plain an__law_plain cd__law_plain ct__law_plain), sl__law_plain⟩)
    (c__law_plain : PySem.W.codeIn K cd__law_plain "_law_plain" = true)
    (k__law_plain : PySem.W.keepIn K (.ref f__law_plain) = true)
    {od__law_answers an__law_answers : Option Addr} {sl__law_answers : Array (Option Value)} {oc__law_answers kV__law_answers dc__law_answers pm__law_answers cd__law_answers ct__law_answers : Value}
    (a__law_answers : PySem.W.nsIn K mainGlobals "_law_answers" = some (some (.ref f__law_answers)))
    (l__law_answers : K.lookup f__law_answers = some ⟨oc__law_answers, od__law_answers, .func (PySem.W.fnOf "_law_answers" "_law_answers" (defArgs s__law_answers) (defBody s__law_answers) (defScope s__law_answers) .none kV__law_answers dc__law_answers pm__law_answers an__law_answers cd__law_answers ct__law_answers), sl__law_answers⟩)
    (c__law_answers : PySem.W.codeIn K cd__law_answers "_law_answers" = true)
    (k__law_answers : PySem.W.keepIn K (.ref f__law_answers) = true)
    {od__law_multiplied an__law_multiplied : Option Addr} {sl__law_multiplied : Array (Option Value)} {oc__law_multiplied kV__law_multiplied dc__law_multiplied pm__law_multiplied cd__law_multiplied ct__law_multiplied : Value}
    (a__law_multiplied : PySem.W.nsIn K mainGlobals "_law_multiplied" = some (some (.ref f__law_multiplied)))
    (l__law_multiplied : K.lookup f__law_multiplied = some ⟨oc__law_multiplied, od__law_multiplied, .func (PySem.W.fnOf "_law_multiplied" "_law_multiplied" (defArgs s__law_multiplied) (defBody s__law_multiplied) (defScope s__law_multiplied) .none kV__law_multiplied dc__law_multiplied pm__law_multiplied an__law_multiplied cd__law_multiplied ct__law_multiplied), sl__law_multiplied⟩)
    (c__law_multiplied : PySem.W.codeIn K cd__law_multiplied "_law_multiplied" = true)
    (k__law_multiplied : PySem.W.keepIn K (.ref f__law_multiplied) = true)
    {od__law_same an__law_same : Option Addr} {sl__law_same : Array (Option Value)} {oc__law_same kV__law_same dc__law_same pm__law_same cd__law_same ct__law_same : Value}
    (a__law_same : PySem.W.nsIn K mainGlobals "_law_same" = some (some (.ref f__law_same)))
    (l__law_same : K.lookup f__law_same = some ⟨oc__law_same, od__law_same, .func (PySem.W.fnOf "_law_same" "_law_same" (defArgs s__law_same) (defBody s__law_same) (defScope s__law_same) .none kV__law_same dc__law_same pm__law_same an__law_same cd__law_same ct__law_same), sl__law_same⟩)
    (c__law_same : PySem.W.codeIn K cd__law_same "_law_same" = true)
    (k__law_same : PySem.W.keepIn K (.ref f__law_same) = true)
    {od_by an_by cdd_by : Option Addr} {sl_by ccs_by : Array (Option Value)} {oc_by kV_by dc_by pm_by ct_by ccl_by : Value} {vs_by : Array Value}
    (a_by : PySem.W.nsIn K mainGlobals "_law_by_response" = some (some (.ref f_by)))
    (l_by : K.lookup f_by = some ⟨oc_by, od_by, .func (PySem.W.fnOf "_law_by_response" "_law_by_response" (defArgs s__law_by_response) (defBody s__law_by_response) (defScope s__law_by_response) .none kV_by dc_by pm_by an_by (.ref c_by) ct_by), sl_by⟩)
    (cd_by : PySem.W.codeIn K (.ref c_by) "_law_by_response" = true)
    (k_by : PySem.W.keepIn K (.ref f_by) = true)
    (lc_by : K.lookup c_by = some ⟨ccl_by, cdd_by, .fields vs_by, ccs_by⟩)
    (v11_by : vs_by[11]? = some (.ref P_by))
    (hd_by : PySem.W.codeHdIn K c_by P_by = true)
    (nT_by : K.lookup P_by = none)
    (hT_by : h.get? P_by = some { cls := .none, data := .fields #[] })
    {od_law an_law cdd_law : Option Addr} {sl_law ccs_law : Array (Option Value)} {oc_law kV_law dc_law pm_law ct_law ccl_law : Value} {vs_law : Array Value}
    (a_law : PySem.W.nsIn K mainGlobals "law" = some (some (.ref f_law)))
    (l_law : K.lookup f_law = some ⟨oc_law, od_law, .func (PySem.W.fnOf "law" "law" (defArgs s_law) (defBody s_law) (defScope s_law) .none kV_law dc_law pm_law an_law (.ref c_law) ct_law), sl_law⟩)
    (cd_law : PySem.W.codeIn K (.ref c_law) "law" = true)
    (k_law : PySem.W.keepIn K (.ref f_law) = true)
    (lc_law : K.lookup c_law = some ⟨ccl_law, cdd_law, .fields vs_law, ccs_law⟩)
    (v11_law : vs_law[11]? = some (.ref P_law))
    (hd_law : PySem.W.codeHdIn K c_law P_law = true)
    (nT_law : K.lookup P_law = none)
    (hT_law : h.get? P_law = some { cls := .none, data := .fields #[] })
    (nP : P_law ≠ P_by)
    {tk_MOST_PLACES : Tok}
    (g_MOST_PLACES : PySem.W.nsIn K mainGlobals "MOST_PLACES" = some (some (.int 200 tk_MOST_PLACES)))
    {tt_N : Option Addr} {tn_N : Nat} {ts_N : Array (Option Value)} {tk_N0 tk_N1 : Tok}
    (g_NOUGHT : PySem.W.nsIn K mainGlobals "NOUGHT" = some (some (.ref A_NOUGHT)))
    (t_NOUGHT : K.lookup A_NOUGHT = some ⟨.type "tuple", tt_N, .seq [Value.int 0 tk_N0, Value.int 1 tk_N1].toArray tn_N, ts_N⟩)
    (z_isinstance : PySem.W.nsIn K mainGlobals "isinstance" = some none)
    (z_int : PySem.W.nsIn K mainGlobals "int" = some none)
    (z_bool : PySem.W.nsIn K mainGlobals "bool" = some none)
    (z_tuple : PySem.W.nsIn K mainGlobals "tuple" = some none)
    (z_len : PySem.W.nsIn K mainGlobals "len" = some none)
    (z_abs : PySem.W.nsIn K mainGlobals "abs" = some none)
    (z_list : PySem.W.nsIn K mainGlobals "list" = some none)
    (z_all : PySem.W.nsIn K mainGlobals "all" = some none)
    (z_zip : PySem.W.nsIn K mainGlobals "zip" = some none)
    (z_sum : PySem.W.nsIn K mainGlobals "sum" = some none)
    (z_max : PySem.W.nsIn K mainGlobals "max" = some none)
    (z_range : PySem.W.nsIn K mainGlobals "range" = some none)
    (z_min : PySem.W.nsIn K mainGlobals "min" = some none) :
    LamX.LawAtS l w K CX0 10 63 "_law_script" mg fa h := by
  have F_is_whole := fun_mk (st := s_is_whole) l_is_whole c_is_whole k_is_whole
  have b_is_whole := F_is_whole.binds (ps := ["thing"]) fun _ _ _ _ _ _ us hl => match us, hl with | [_], _ => rfl
  have F_is_fraction := fun_mk (st := s_is_fraction) l_is_fraction c_is_fraction k_is_fraction
  have b_is_fraction := F_is_fraction.binds (ps := ["thing"]) fun _ _ _ _ _ _ us hl => match us, hl with | [_], _ => rfl
  have F_shared_divisor := fun_mk (st := s_shared_divisor) l_shared_divisor c_shared_divisor k_shared_divisor
  have b_shared_divisor := F_shared_divisor.binds (ps := ["top", "bottom"]) fun _ _ _ _ _ _ us hl => match us, hl with | [_, _], _ => rfl
  have F_lowest := fun_mk (st := s_lowest) l_lowest c_lowest k_lowest
  have b_lowest := F_lowest.binds (ps := ["top", "bottom"]) fun _ _ _ _ _ _ us hl => match us, hl with | [_, _], _ => rfl
  have F_minus := fun_mk (st := s_minus) l_minus c_minus k_minus
  have b_minus := F_minus.binds (ps := ["one", "other"]) fun _ _ _ _ _ _ us hl => match us, hl with | [_, _], _ => rfl
  have F_divided := fun_mk (st := s_divided) l_divided c_divided k_divided
  have b_divided := F_divided.binds (ps := ["one", "other"]) fun _ _ _ _ _ _ us hl => match us, hl with | [_, _], _ => rfl
  have F_is_fractions := fun_mk (st := s_is_fractions) l_is_fractions c_is_fractions k_is_fractions
  have b_is_fractions := F_is_fractions.binds (ps := ["thing"]) fun _ _ _ _ _ _ us hl => match us, hl with | [_], _ => rfl
  have F_common_bottom := fun_mk (st := s_common_bottom) l_common_bottom c_common_bottom k_common_bottom
  have b_common_bottom := F_common_bottom.binds (ps := ["pairs"]) fun _ _ _ _ _ _ us hl => match us, hl with | [_], _ => rfl
  have F_cleared := fun_mk (st := s_cleared) l_cleared c_cleared k_cleared
  have b_cleared := F_cleared.binds (ps := ["pairs"]) fun _ _ _ _ _ _ us hl => match us, hl with | [_], _ => rfl
  have F_sum_of_products := fun_mk (st := s_sum_of_products) l_sum_of_products c_sum_of_products k_sum_of_products
  have b_sum_of_products := F_sum_of_products.binds (ps := ["xs", "ys"]) fun _ _ _ _ _ _ us hl => match us, hl with | [_, _], _ => rfl
  have F_is_bottom := fun_mk (st := s_is_bottom) l_is_bottom c_is_bottom k_is_bottom
  have b_is_bottom := F_is_bottom.binds (ps := ["thing"]) fun _ _ _ _ _ _ us hl => match us, hl with | [_], _ => rfl
  have F_check_series := fun_mk (st := s_check_series) l_check_series c_check_series k_check_series
  have b_check_series := F_check_series.binds (ps := ["thing"]) fun _ _ _ _ _ _ us hl => match us, hl with | [_], _ => rfl
  have F_check_bottom := fun_mk (st := s_check_bottom) l_check_bottom c_check_bottom k_check_bottom
  have b_check_bottom := F_check_bottom.binds (ps := ["thing"]) fun _ _ _ _ _ _ us hl => match us, hl with | [_], _ => rfl
  have F_place_of := fun_mk (st := s_place_of) l_place_of c_place_of k_place_of
  have b_place_of := F_place_of.binds (ps := ["series", "at"]) fun _ _ _ _ _ _ us hl => match us, hl with | [_, _], _ => rfl
  have F_product_place := fun_mk (st := s_product_place) l_product_place c_product_place k_product_place
  have b_product_place := F_product_place.binds (ps := ["one", "other", "at"]) fun _ _ _ _ _ _ us hl => match us, hl with | [_, _, _], _ => rfl
  have F_first_places := fun_mk (st := s_first_places) l_first_places c_first_places k_first_places
  have b_first_places := F_first_places.binds (ps := ["one", "other", "many"]) fun _ _ _ _ _ _ us hl => match us, hl with | [_, _, _], _ => rfl
  have F_product_of := fun_mk (st := s_product_of) l_product_of c_product_of k_product_of
  have b_product_of := F_product_of.binds (ps := ["one", "other"]) fun _ _ _ _ _ _ us hl => match us, hl with | [_, _], _ => rfl
  have F_quotient := fun_mk (st := s_quotient) l_quotient c_quotient k_quotient
  have b_quotient := F_quotient.binds (ps := ["top", "bottom", "many"]) fun _ _ _ _ _ _ us hl => match us, hl with | [_, _, _], _ => rfl
  have F_response := fun_mk (st := s_response) l_response c_response k_response
  have b_response := F_response.binds (ps := ["top", "bottom", "many"]) fun _ _ _ _ _ _ us hl => match us, hl with | [_, _, _], _ => rfl
  have F_answered := fun_mk (st := s_answered) l_answered c_answered k_answered
  have b_answered := F_answered.binds (ps := ["top", "bottom", "inputs"]) fun _ _ _ _ _ _ us hl => match us, hl with | [_, _, _], _ => rfl
  have F__law_cell_at := fun_mk (st := s__law_cell_at) l__law_cell_at c__law_cell_at k__law_cell_at
  have b__law_cell_at := F__law_cell_at.binds (ps := ["_law_script", "_law_k"]) fun _ _ _ _ _ _ us hl => match us, hl with | [_, _], _ => rfl
  have F__law_well := fun_mk (st := s__law_well) l__law_well c__law_well k__law_well
  have b__law_well := F__law_well.binds (ps := ["_law_cell"]) fun _ _ _ _ _ _ us hl => match us, hl with | [_], _ => rfl
  have F__law_draw := fun_mk (st := s__law_draw) l__law_draw c__law_draw k__law_draw
  have b__law_draw := F__law_draw.binds (ps := ["_law_well_here", "_law_many"]) fun _ _ _ _ _ _ us hl => match us, hl with | [_, _], _ => rfl
  have F__law_one := fun_mk (st := s__law_one) l__law_one c__law_one k__law_one
  have b__law_one := F__law_one.binds (ps := ["_law_well_here", "_law_some"]) fun _ _ _ _ _ _ us hl => match us, hl with | [_, _], _ => rfl
  have F__law_low := fun_mk (st := s__law_low) l__law_low c__law_low k__law_low
  have b__law_low := F__law_low.binds (ps := ["_law_top", "_law_bottom_here"]) fun _ _ _ _ _ _ us hl => match us, hl with | [_, _], _ => rfl
  have F__law_sum := fun_mk (st := s__law_sum) l__law_sum c__law_sum k__law_sum
  have b__law_sum := F__law_sum.binds (ps := ["_law_some"]) fun _ _ _ _ _ _ us hl => match us, hl with | [_], _ => rfl
  have F__law_place := fun_mk (st := s__law_place) l__law_place c__law_place k__law_place
  have b__law_place := F__law_place.binds (ps := ["_law_well_here", "_law_kind"]) fun _ _ _ _ _ _ us hl => match us, hl with | [_, _], _ => rfl
  have F__law_series := fun_mk (st := s__law_series) l__law_series c__law_series k__law_series
  have b__law_series := F__law_series.binds (ps := ["_law_well_here", "_law_many", "_law_kind"]) fun _ _ _ _ _ _ us hl => match us, hl with | [_, _, _], _ => rfl
  have F__law_bottom := fun_mk (st := s__law_bottom) l__law_bottom c__law_bottom k__law_bottom
  have b__law_bottom := F__law_bottom.binds (ps := ["_law_well_here", "_law_many", "_law_kind"]) fun _ _ _ _ _ _ us hl => match us, hl with | [_, _, _], _ => rfl
  have F__law_plain := fun_mk (st := s__law_plain) l__law_plain c__law_plain k__law_plain
  have b__law_plain := F__law_plain.binds (ps := ["_law_told"]) fun _ _ _ _ _ _ us hl => match us, hl with | [_], _ => rfl
  have F__law_answers := fun_mk (st := s__law_answers) l__law_answers c__law_answers k__law_answers
  have b__law_answers := F__law_answers.binds (ps := ["_law_top", "_law_bottom_here", "_law_come"]) fun _ _ _ _ _ _ us hl => match us, hl with | [_, _, _], _ => rfl
  have F__law_multiplied := fun_mk (st := s__law_multiplied) l__law_multiplied c__law_multiplied k__law_multiplied
  have b__law_multiplied := F__law_multiplied.binds (ps := ["_law_one_here", "_law_other"]) fun _ _ _ _ _ _ us hl => match us, hl with | [_, _], _ => rfl
  have F__law_same := fun_mk (st := s__law_same) l__law_same c__law_same k__law_same
  have b__law_same := F__law_same.binds (ps := ["_law_ask", "_law_due"]) fun _ _ _ _ _ _ us hl => match us, hl with | [_, _], _ => rfl
  have F_by : FunC K "_law_by_response" s__law_by_response f_by (PySem.W.fnOf "_law_by_response" "_law_by_response" (defArgs s__law_by_response) (defBody s__law_by_response) (defScope s__law_by_response) .none kV_by dc_by pm_by an_by (.ref c_by) ct_by) c_by := ⟨_, _, _, _, _, _, _, _, rfl, l_by, cd_by⟩
  have F_law : FunC K "law" s_law f_law (PySem.W.fnOf "law" "law" (defArgs s_law) (defBody s_law) (defScope s_law) .none kV_law dc_law pm_law an_law (.ref c_law) ct_law) c_law := ⟨_, _, _, _, _, _, _, _, rfl, l_law, cd_law⟩
  have b_by : Binds K (PySem.W.fnOf "_law_by_response" "_law_by_response" (defArgs s__law_by_response) (defBody s__law_by_response) (defScope s__law_by_response) .none kV_by dc_by pm_by an_by (.ref c_by) ct_by) ["_law_top", "_law_bottom_here", "_law_many"] [] := .all fun us hl => match us, hl with | [_, _, _], _ => rfl
  have T_N : ∀ H, SqT K H A_NOUGHT [V.int 0, V.int 1] := fun H => .inr ⟨_, _, _, t_NOUGHT, rfl, rfl, (by show 2 ≤ sizeLine; decide), (.cons ⟨_, rfl⟩ (.cons ⟨_, rfl⟩ .nil))⟩
  have gN := PySem.W.mg_of X G g_NOUGHT
  have gM := PySem.W.mg_of X G g_MOST_PLACES
  have z : Zs mg := ⟨PySem.W.mg_none_of X G z_isinstance, PySem.W.mg_none_of X G z_int, PySem.W.mg_none_of X G z_bool, PySem.W.mg_none_of X G z_tuple, PySem.W.mg_none_of X G z_len, PySem.W.mg_none_of X G z_abs, PySem.W.mg_none_of X G z_list, PySem.W.mg_none_of X G z_all, PySem.W.mg_none_of X G z_zip, PySem.W.mg_none_of X G z_sum, PySem.W.mg_none_of X G z_max, PySem.W.mg_none_of X G z_range, PySem.W.mg_none_of X G z_min⟩
  have e := hfa.symm.trans (PySem.W.mg_of X G a_law)
  cases e
  have two : ∀ {p : Addr × Addr}, p ∈ [(c_law, P_law), (c_by, P_by)] → p = (c_law, P_law) ∨ p = (c_by, P_by) := fun h => by
    rcases List.mem_cons.mp h with h | h
    · exact .inl h
    · exact .inr (List.mem_singleton.mp h)
  refine ⟨PySem.W.fnOf "law" "law" (defArgs s_law) (defBody s_law) (defScope s_law) .none kV_law dc_law pm_law an_law (.ref c_law) ct_law, [(c_law, P_law), (c_by, P_by)], spLaw K P_law P_by, fun p hp => by rcases two hp with rfl | rfl; exact hT_law; exact hT_by, fun p hp => by rcases two hp with rfl | rfl; exact nT_law; exact nT_by, fun p hp => by rcases two hp with rfl | rfl; exact PySem.W.codeHd_of_K X hd_law; exact PySem.W.codeHd_of_K X hd_by, fun s v => .of_eq rfl, fun H a ns hl _ hH hS => ⟨a, ns, rfl, hS, hl, tabs0 (hH _ List.mem_cons_self) (hH _ (List.mem_cons_of_mem _ List.mem_cons_self)), fun _ => rfl⟩, fun base _ _ TBs => ?_⟩
  have TB := TBs _ List.mem_cons_self
  have TBy := TBs _ (List.mem_cons_of_mem _ List.mem_cons_self)
  have c_is_whole : Cal l.prog w K mg base 1 "is_whole" ["thing"] _ := ⟨f_is_whole, _, PySem.W.mg_of X G a_is_whole, k_is_whole, b_is_whole, ok_is_whole (k := 0) F_is_whole z⟩
  have c_shared_divisor : Cal l.prog w K mg base 1 "shared_divisor" ["top", "bottom"] _ := ⟨f_shared_divisor, _, PySem.W.mg_of X G a_shared_divisor, k_shared_divisor, b_shared_divisor, ok_shared_divisor (k := 0) F_shared_divisor z⟩
  have c_lowest : Cal l.prog w K mg base 2 "lowest" ["top", "bottom"] _ := ⟨f_lowest, _, PySem.W.mg_of X G a_lowest, k_lowest, b_lowest, ok_lowest F_lowest c_shared_divisor⟩
  have c_minus : Cal l.prog w K mg base 3 "minus" ["one", "other"] _ := ⟨f_minus, _, PySem.W.mg_of X G a_minus, k_minus, b_minus, ok_minus F_minus c_lowest⟩
  have c_divided : Cal l.prog w K mg base 3 "divided" ["one", "other"] _ := ⟨f_divided, _, PySem.W.mg_of X G a_divided, k_divided, b_divided, ok_divided F_divided c_lowest⟩
  have c_is_fraction : Cal l.prog w K mg base 2 "is_fraction" ["thing"] _ := ⟨f_is_fraction, _, PySem.W.mg_of X G a_is_fraction, k_is_fraction, b_is_fraction, ok_is_fraction F_is_fraction z c_is_whole c_shared_divisor⟩
  have c_is_fractions : Cal l.prog w K mg base 3 "is_fractions" ["thing"] _ := ⟨f_is_fractions, _, PySem.W.mg_of X G a_is_fractions, k_is_fractions, b_is_fractions, ok_is_fractions F_is_fractions z c_is_fraction⟩
  have c_common_bottom : Cal l.prog w K mg base 2 "common_bottom" ["pairs"] _ := ⟨f_common_bottom, _, PySem.W.mg_of X G a_common_bottom, k_common_bottom, b_common_bottom, ok_common_bottom F_common_bottom z c_shared_divisor⟩
  have c_cleared : Cal l.prog w K mg base 3 "cleared" ["pairs"] _ := ⟨f_cleared, _, PySem.W.mg_of X G a_cleared, k_cleared, b_cleared, ok_cleared F_cleared c_common_bottom⟩
  have c_sum_of_products : Cal l.prog w K mg base 4 "sum_of_products" ["xs", "ys"] _ := ⟨f_sum_of_products, _, PySem.W.mg_of X G a_sum_of_products, k_sum_of_products, b_sum_of_products, ok_sum_of_products F_sum_of_products z c_cleared c_lowest⟩
  have c_is_bottom : Cal l.prog w K mg base 4 "is_bottom" ["thing"] _ := ⟨f_is_bottom, _, PySem.W.mg_of X G a_is_bottom, k_is_bottom, b_is_bottom, ok_is_bottom gN T_N F_is_bottom z c_is_fractions⟩
  have c_check_series : Cal l.prog w K mg base 4 "check_series" ["thing"] _ := ⟨f_check_series, _, PySem.W.mg_of X G a_check_series, k_check_series, b_check_series, ok_check_series F_check_series c_is_fractions⟩
  have c_check_bottom : Cal l.prog w K mg base 5 "check_bottom" ["thing"] _ := ⟨f_check_bottom, _, PySem.W.mg_of X G a_check_bottom, k_check_bottom, b_check_bottom, ok_check_bottom F_check_bottom c_is_bottom⟩
  have c_place_of : Cal l.prog w K mg base 1 "place_of" ["series", "at"] _ := ⟨f_place_of, _, PySem.W.mg_of X G a_place_of, k_place_of, b_place_of, ok_place_of (k := 0) gN T_N F_place_of z⟩
  have c_product_place : Cal l.prog w K mg base 5 "product_place" ["one", "other", "at"] _ := ⟨f_product_place, _, PySem.W.mg_of X G a_product_place, k_product_place, b_product_place, ok_product_place F_product_place z c_sum_of_products⟩
  have c_first_places : Cal l.prog w K mg base 6 "first_places" ["one", "other", "many"] _ := ⟨f_first_places, _, PySem.W.mg_of X G a_first_places, k_first_places, b_first_places, ok_first_places F_first_places z c_product_place⟩
  have c_quotient : Cal l.prog w K mg base 5 "quotient" ["top", "bottom", "many"] _ := ⟨f_quotient, _, PySem.W.mg_of X G a_quotient, k_quotient, b_quotient, ok_quotient F_quotient z c_minus c_divided c_place_of c_sum_of_products⟩
  have c_response : Cal l.prog w K mg base 6 "response" ["top", "bottom", "many"] _ := ⟨f_response, _, PySem.W.mg_of X G a_response, k_response, b_response, ok_response F_response gM c_is_whole c_check_series c_check_bottom c_quotient⟩
  have c_answered : Cal l.prog w K mg base 7 "answered" ["top", "bottom", "inputs"] _ := ⟨f_answered, _, PySem.W.mg_of X G a_answered, k_answered, b_answered, ok_answered F_answered z c_check_series c_check_bottom c_first_places c_quotient⟩
  have c_product_of : Cal l.prog w K mg base 7 "product_of" ["one", "other"] _ := ⟨f_product_of, _, PySem.W.mg_of X G a_product_of, k_product_of, b_product_of, ok_product_of F_product_of z c_check_series c_first_places⟩
  have c__law_cell_at : Cal l.prog w K mg base 1 "_law_cell_at" ["_law_script", "_law_k"] _ := ⟨f__law_cell_at, _, PySem.W.mg_of X G a__law_cell_at, k__law_cell_at, b__law_cell_at, ok_cell (k := 0) F__law_cell_at z.len⟩
  have c__law_well : Cal l.prog w K mg base 1 "_law_well" ["_law_cell"] _ := ⟨f__law_well, _, PySem.W.mg_of X G a__law_well, k__law_well, b__law_well, ok_well (k := 0) F__law_well z.int⟩
  have c__law_draw : Cal l.prog w K mg base 1 "_law_draw" ["_law_well_here", "_law_many"] _ := ⟨f__law_draw, _, PySem.W.mg_of X G a__law_draw, k__law_draw, b__law_draw, ok_draw (k := 0) F__law_draw⟩
  have c__law_one : Cal l.prog w K mg base 2 "_law_one" ["_law_well_here", "_law_some"] _ := ⟨f__law_one, _, PySem.W.mg_of X G a__law_one, k__law_one, b__law_one, ok__law_one F__law_one z c__law_draw⟩
  have c__law_low : Cal l.prog w K mg base 1 "_law_low" ["_law_top", "_law_bottom_here"] _ := ⟨f__law_low, _, PySem.W.mg_of X G a__law_low, k__law_low, b__law_low, ok__law_low (k := 0) F__law_low z⟩
  have c__law_sum : Cal l.prog w K mg base 2 "_law_sum" ["_law_some"] _ := ⟨f__law_sum, _, PySem.W.mg_of X G a__law_sum, k__law_sum, b__law_sum, ok__law_sum F__law_sum c__law_low⟩
  have c__law_place : Cal l.prog w K mg base 2 "_law_place" ["_law_well_here", "_law_kind"] _ := ⟨f__law_place, _, PySem.W.mg_of X G a__law_place, k__law_place, b__law_place, ok__law_place F__law_place c__law_draw c__law_low⟩
  have c__law_series : Cal l.prog w K mg base 3 "_law_series" ["_law_well_here", "_law_many", "_law_kind"] _ := ⟨f__law_series, _, PySem.W.mg_of X G a__law_series, k__law_series, b__law_series, ok__law_series F__law_series z c__law_one c__law_place⟩
  have c__law_bottom : Cal l.prog w K mg base 4 "_law_bottom" ["_law_well_here", "_law_many", "_law_kind"] _ := ⟨f__law_bottom, _, PySem.W.mg_of X G a__law_bottom, k__law_bottom, b__law_bottom, ok__law_bottom F__law_bottom c__law_one c__law_place c__law_series⟩
  have c__law_answers : Cal l.prog w K mg base 3 "_law_answers" ["_law_top", "_law_bottom_here", "_law_come"] _ := ⟨f__law_answers, _, PySem.W.mg_of X G a__law_answers, k__law_answers, b__law_answers, ok__law_answers F__law_answers z c__law_sum c__law_low⟩
  have c__law_multiplied : Cal l.prog w K mg base 3 "_law_multiplied" ["_law_one_here", "_law_other"] _ := ⟨f__law_multiplied, _, PySem.W.mg_of X G a__law_multiplied, k__law_multiplied, b__law_multiplied, ok__law_multiplied F__law_multiplied z c__law_sum⟩
  have c_p0 : Cal l.prog w K mg base 1 "_law_plain" ["_law_told"] spNo := ⟨f__law_plain, _, PySem.W.mg_of X G a__law_plain, k__law_plain, b__law_plain, ok_plainN (k := 0) F__law_plain⟩
  have c_p1 : Cal l.prog w K mg base 2 "_law_plain" ["_law_told"] spPlT := ⟨f__law_plain, _, PySem.W.mg_of X G a__law_plain, k__law_plain, b__law_plain, ok_plainT F__law_plain z c_p0 c__law_low⟩
  have c__law_plain : Cal l.prog w K mg base 3 "_law_plain" ["_law_told"] spPlL := ⟨f__law_plain, _, PySem.W.mg_of X G a__law_plain, k__law_plain, b__law_plain, ok_plainL F__law_plain z c_p1 c__law_low⟩
  obtain ⟨cdS, GT⟩ := gotTwo_of F__law_same (PySem.W.mg_of X G a__law_same) b__law_same sc__law_same rfl (.inl rfl)
  have c_by_ : Cal l.prog w K mg base 9 "_law_by_response" ["_law_top", "_law_bottom_here", "_law_many"] (spBy (TT15 P_law P_by)) := ⟨f_by, _, PySem.W.mg_of X G a_by, k_by, b_by, ok_by F_by z TBy (List.mem_cons_of_mem _ List.mem_cons_self) (fun p hp e => by rcases List.mem_cons.mp hp with rfl | hp; exact absurd e nP; rw [List.mem_singleton.mp hp]) GT c_response c__law_answers c__law_multiplied c__law_plain⟩
  exact ok_law F_law z TB nP GT c__law_cell_at c__law_well c__law_draw c__law_series c__law_bottom c__law_answers c__law_multiplied c__law_sum c__law_plain c_by_ c_answered c_product_of c_response

end E1

open PySem PySem.W PyProof.Rows
set_option maxRecDepth 100000 in
set_option maxHeartbeats 0 in
theorem PySem.Challenge.cw_echobound_k15_answers_of_series_holds : PySem.Challenge.rw_echobound_k15_answers_of_series.Holds := by
  w_on; o_law; km_head; (case hw => w_witness2)
  k_fill
  refine LamX.walk_ofTs (l := PySem.Challenge.rw_echobound_k15_answers_of_series) (n := 63) (k := 10) (x := "_law_script") (CX := fun _ => L2.CX0) rfl (by decide) rfl ⟨rfl, by decide, by decide⟩ (fun w h Y => PySem.W.km_in_of Y) ?F (fun _ _ _ _ _ h => h)
  case F =>
    intro w mg fa h Y KX G hmg
    refine' E1.all_mk KX G hmg ?a_is_whole ?l_is_whole ?c_is_whole ?k_is_whole ?a_is_fraction ?l_is_fraction ?c_is_fraction ?k_is_fraction ?a_shared_divisor ?l_shared_divisor ?c_shared_divisor ?k_shared_divisor ?a_lowest ?l_lowest ?c_lowest ?k_lowest ?a_minus ?l_minus ?c_minus ?k_minus ?a_divided ?l_divided ?c_divided ?k_divided ?a_is_fractions ?l_is_fractions ?c_is_fractions ?k_is_fractions ?a_common_bottom ?l_common_bottom ?c_common_bottom ?k_common_bottom ?a_cleared ?l_cleared ?c_cleared ?k_cleared ?a_sum_of_products ?l_sum_of_products ?c_sum_of_products ?k_sum_of_products ?a_is_bottom ?l_is_bottom ?c_is_bottom ?k_is_bottom ?a_check_series ?l_check_series ?c_check_series ?k_check_series ?a_check_bottom ?l_check_bottom ?c_check_bottom ?k_check_bottom ?a_place_of ?l_place_of ?c_place_of ?k_place_of ?a_product_place ?l_product_place ?c_product_place ?k_product_place ?a_first_places ?l_first_places ?c_first_places ?k_first_places ?a_product_of ?l_product_of ?c_product_of ?k_product_of ?a_quotient ?l_quotient ?c_quotient ?k_quotient ?a_response ?l_response ?c_response ?k_response ?a_answered ?l_answered ?c_answered ?k_answered ?a__law_cell_at ?l__law_cell_at ?c__law_cell_at ?k__law_cell_at ?a__law_well ?l__law_well ?c__law_well ?k__law_well ?a__law_draw ?l__law_draw ?c__law_draw ?k__law_draw ?a__law_one ?l__law_one ?c__law_one ?k__law_one ?a__law_low ?l__law_low ?c__law_low ?k__law_low ?a__law_sum ?l__law_sum ?c__law_sum ?k__law_sum ?a__law_place ?l__law_place ?c__law_place ?k__law_place ?a__law_series ?l__law_series ?c__law_series ?k__law_series ?a__law_bottom ?l__law_bottom ?c__law_bottom ?k__law_bottom ?a__law_plain ?l__law_plain ?c__law_plain ?k__law_plain ?a__law_answers ?l__law_answers ?c__law_answers ?k__law_answers ?a__law_multiplied ?l__law_multiplied ?c__law_multiplied ?k__law_multiplied ?a__law_same ?l__law_same ?c__law_same ?k__law_same ?a_by ?l_by ?cd_by ?k_by ?lc_by ?v11_by ?hd_by ?nT_by ?hT_by ?a_law ?l_law ?cd_law ?k_law ?lc_law ?v11_law ?hd_law ?nT_law ?hT_law ?nP ?g_MOST_PLACES ?g_NOUGHT ?t_NOUGHT ?z_isinstance ?z_int ?z_bool ?z_tuple ?z_len ?z_abs ?z_list ?z_all ?z_zip ?z_sum ?z_max ?z_range ?z_min
    (case a_is_whole => k_is)
    (case l_is_whole => k_is)
    (case c_is_whole => k_is)
    (case k_is_whole => k_is)
    (case a_is_fraction => k_is)
    (case l_is_fraction => k_is)
    (case c_is_fraction => k_is)
    (case k_is_fraction => k_is)
    (case a_shared_divisor => k_is)
    (case l_shared_divisor => k_is)
    (case c_shared_divisor => k_is)
    (case k_shared_divisor => k_is)
    (case a_lowest => k_is)
    (case l_lowest => k_is)
    (case c_lowest => k_is)
    (case k_lowest => k_is)
    (case a_minus => k_is)
    (case l_minus => k_is)
    (case c_minus => k_is)
    (case k_minus => k_is)
    (case a_divided => k_is)
    (case l_divided => k_is)
    (case c_divided => k_is)
    (case k_divided => k_is)
    (case a_is_fractions => k_is)
    (case l_is_fractions => k_is)
    (case c_is_fractions => k_is)
    (case k_is_fractions => k_is)
    (case a_common_bottom => k_is)
    (case l_common_bottom => k_is)
    (case c_common_bottom => k_is)
    (case k_common_bottom => k_is)
    (case a_cleared => k_is)
    (case l_cleared => k_is)
    (case c_cleared => k_is)
    (case k_cleared => k_is)
    (case a_sum_of_products => k_is)
    (case l_sum_of_products => k_is)
    (case c_sum_of_products => k_is)
    (case k_sum_of_products => k_is)
    (case a_is_bottom => k_is)
    (case l_is_bottom => k_is)
    (case c_is_bottom => k_is)
    (case k_is_bottom => k_is)
    (case a_check_series => k_is)
    (case l_check_series => k_is)
    (case c_check_series => k_is)
    (case k_check_series => k_is)
    (case a_check_bottom => k_is)
    (case l_check_bottom => k_is)
    (case c_check_bottom => k_is)
    (case k_check_bottom => k_is)
    (case a_place_of => k_is)
    (case l_place_of => k_is)
    (case c_place_of => k_is)
    (case k_place_of => k_is)
    (case a_product_place => k_is)
    (case l_product_place => k_is)
    (case c_product_place => k_is)
    (case k_product_place => k_is)
    (case a_first_places => k_is)
    (case l_first_places => k_is)
    (case c_first_places => k_is)
    (case k_first_places => k_is)
    (case a_product_of => k_is)
    (case l_product_of => k_is)
    (case c_product_of => k_is)
    (case k_product_of => k_is)
    (case a_quotient => k_is)
    (case l_quotient => k_is)
    (case c_quotient => k_is)
    (case k_quotient => k_is)
    (case a_response => k_is)
    (case l_response => k_is)
    (case c_response => k_is)
    (case k_response => k_is)
    (case a_answered => k_is)
    (case l_answered => k_is)
    (case c_answered => k_is)
    (case k_answered => k_is)
    (case a__law_cell_at => k_is)
    (case l__law_cell_at => k_is)
    (case c__law_cell_at => k_is)
    (case k__law_cell_at => k_is)
    (case a__law_well => k_is)
    (case l__law_well => k_is)
    (case c__law_well => k_is)
    (case k__law_well => k_is)
    (case a__law_draw => k_is)
    (case l__law_draw => k_is)
    (case c__law_draw => k_is)
    (case k__law_draw => k_is)
    (case a__law_one => k_is)
    (case l__law_one => k_is)
    (case c__law_one => k_is)
    (case k__law_one => k_is)
    (case a__law_low => k_is)
    (case l__law_low => k_is)
    (case c__law_low => k_is)
    (case k__law_low => k_is)
    (case a__law_sum => k_is)
    (case l__law_sum => k_is)
    (case c__law_sum => k_is)
    (case k__law_sum => k_is)
    (case a__law_place => k_is)
    (case l__law_place => k_is)
    (case c__law_place => k_is)
    (case k__law_place => k_is)
    (case a__law_series => k_is)
    (case l__law_series => k_is)
    (case c__law_series => k_is)
    (case k__law_series => k_is)
    (case a__law_bottom => k_is)
    (case l__law_bottom => k_is)
    (case c__law_bottom => k_is)
    (case k__law_bottom => k_is)
    (case a__law_plain => k_is)
    (case l__law_plain => k_is)
    (case c__law_plain => k_is)
    (case k__law_plain => k_is)
    (case a__law_answers => k_is)
    (case l__law_answers => k_is)
    (case c__law_answers => k_is)
    (case k__law_answers => k_is)
    (case a__law_multiplied => k_is)
    (case l__law_multiplied => k_is)
    (case c__law_multiplied => k_is)
    (case k__law_multiplied => k_is)
    (case a__law_same => k_is)
    (case l__law_same => k_is)
    (case c__law_same => k_is)
    (case k__law_same => k_is)
    (case a_by => k_is)
    (case l_by => k_is)
    (case cd_by => k_is)
    (case k_by => k_is)
    (case lc_by => k_is)
    (case v11_by => rfl)
    (case hd_by => first | kernel_rfl | rfl | decide +kernel)
    (case nT_by => first | kernel_rfl | rfl | decide +kernel)
    (case hT_by => exact PySem.W.km_tabs_of Y _ (by first | k_mem | decide | simp))
    (case a_law => k_is)
    (case l_law => k_is)
    (case cd_law => k_is)
    (case k_law => k_is)
    (case lc_law => k_is)
    (case v11_law => rfl)
    (case hd_law => first | kernel_rfl | rfl | decide +kernel)
    (case nT_law => first | kernel_rfl | rfl | decide +kernel)
    (case hT_law => exact PySem.W.km_tabs_of Y _ (by first | k_mem | decide | simp))
    (case nP => first | decide | (intro z; cases z))
    (case g_MOST_PLACES => k_is)
    (case g_NOUGHT => k_is)
    (case t_NOUGHT => k_is)
    (case z_isinstance => k_is)
    (case z_int => k_is)
    (case z_bool => k_is)
    (case z_tuple => k_is)
    (case z_len => k_is)
    (case z_abs => k_is)
    (case z_list => k_is)
    (case z_all => k_is)
    (case z_zip => k_is)
    (case z_sum => k_is)
    (case z_max => k_is)
    (case z_range => k_is)
    (case z_min => k_is)
