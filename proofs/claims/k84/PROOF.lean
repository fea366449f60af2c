import PyProof.Rows.All
import Wide.All
import OpenK.AllK
import Wide.FinOn
import HandS.Codes
import HandS.ForMost
import HandS.Wide
import HandS.Zip
import HandS.IsInst
import HandS.Defaults
import HandS.Style
import HandS.Star
import HandS.Walk
import HandS.More
import HandS.WideBits
import OpenK.KEqL
import HandS.Flow
import HandS.Conv
import HandS.TupAny
import HandS.Small
import HandS.Deep
import HandS.Lambda
import KE.SortKeyHeap
import KE.KSortKey
import KE.KLam
import HandS.ForExc
import HandS.CallLocal
import KE.RegKSuper
import KE.RegKIsAll
import KE.RegKTryMore
import KE.KNestM
import HandS.EndTab
import PySem.Challenge.RW_echobound_k84_whole_words_fitted
set_option Elab.async false
set_option linter.all false
set_option maxRecDepth 100000
set_option maxHeartbeats 4000000
namespace E1
open PySem PySem.Spec PyProof.Rows L2
/-! ### a def of the text that is called by its name -/
def Cal (P : Program) (w : World) (K : PySem.W.Frag) (mg : Str → Option Value) (base : Heap) (k : Nat) (x : Str) (ps : List Str) (sp : Sp) : Prop :=
  ∃ (f : Addr) (fd : FuncData), mg x = some (.ref f) ∧ PySem.W.keepIn K (.ref f) = true ∧ Binds K fd ps [] ∧ FnOk P w K mg base CX0 k f fd ps sp
theorem pe_cal {X : Cx} {k j : Nat} {x : Str} {ps : List Str} {sp : Sp} {e : Expr} {es : List Expr} {t : TA} {p pos : Pos} (c : Cal X.prog X.w X.K X.mg X.base k x ps sp) (hr : Room j X.A) (ha : PA X (e :: es) t) (hle : k ≤ j := by decide) (hg : Gl X x := by rfl)
    (hdb : (x == ("__debug__" : Str)) = false := by decide) (he : starEach (e :: es) X.env = (false, eval e X.env) :: starEach es X.env := by rfl) (hpl : (backTo pos (starEach es X.env)).any (·.1) = false := by rfl) :
    PE X (.Call (.Name x p) (e :: es) [] pos) (tCall sp [] E0 t) := by
  obtain ⟨f, fd, h1, h2, h3, h4⟩ := c
  exact pe_call h4 (hr.mono hle) hg h1 h2 h3 .nil pass0 ha hdb he hpl
/-! ### heaps -/
def SameBut (a : Addr) (H H' : Hp) : Prop := ∀ b o, b ≠ a → H b = some o → H' b = some o
theorem SameBut.refl (a : Addr) (H : Hp) : SameBut a H H := fun _ _ _ h => h
theorem SameBut.trans {a : Addr} {H H1 H2 : Hp} (x : SameBut a H H1) (y : SameBut a H1 H2) : SameBut a H H2 := fun b o n h => y b o n (x b o n h)
theorem SameBut.of {a : Addr} {H H' : Hp} (s : Same H H') : SameBut a H H' := fun b o _ h => s b o h
theorem SameBut.upd {a : Addr} {H : Hp} {o : HO} : SameBut a H (upd H a o) := fun b _ n h => by
  rw [upd_ne n]
  exact h
theorem same_new {H : Hp} {p : Addr} {o : HO} (h : H p = none) : Same H (upd H p o) := fun b x e => by
  rw [upd_ne (ne_of_none e h)]
  exact e
theorem Same.tup {K : PySem.W.Frag} {H H' : Hp} {a : Addr} {xs : List V} (e : Same H H') (h : SqT K H a xs) : SqT K H' a xs := by
  rcases h with (h | ⟨o, h⟩) | h
  · exact .inl (.inl (e _ _ h))
  · exact .inl (.inr ⟨o, e _ _ h⟩)
  · exact .inr h
theorem a0 {α : Type} {x : α} {l : List α} : atI (x :: l) 0 = some x := atI_nat (j := 0) rfl
theorem a1 {α : Type} {x y : α} {l : List α} : atI (x :: y :: l) 1 = some y := atI_nat (j := 1) rfl
theorem a2 {α : Type} {x y z : α} {l : List α} : atI (x :: y :: z :: l) 2 = some z := atI_nat (j := 2) rfl
theorem toB {p : Prop} [Decidable p] (h : decide p = true) : p := of_decide_eq_true h
theorem toNB {p : Prop} [Decidable p] (h : ¬ decide p = true) : ¬ p := fun z => h (decide_eq_true z)
/-- a well: the digits left, a number that is mixed, how many were mixed (at most c) -/
def WellAt (H : Hp) (a : Addr) (c : Int) : Prop := ∃ x y z : Int, H a = some (.lst [.int x, .int y, .int z]) ∧ 0 ≤ y ∧ y < 2147483647 ∧ 0 ≤ z ∧ z ≤ c
theorem WellAt.mono {H : Hp} {a : Addr} {c d : Int} (h : WellAt H a c) (l : c ≤ d) : WellAt H a d := by
  obtain ⟨x, y, z, e, h1, h2, h3, h4⟩ := h
  exact ⟨x, y, z, e, h1, h2, h3, by omega⟩
theorem WellAt.same {H H' : Hp} {a : Addr} {c : Int} (h : WellAt H a c) (s : Same H H') : WellAt H' a c := by
  obtain ⟨x, y, z, e, h1, h2, h3, h4⟩ := h
  exact ⟨x, y, z, s _ _ e, h1, h2, h3, h4⟩
theorem WellAt.but {H H' : Hp} {a b : Addr} {c : Int} (h : WellAt H a c) (s : SameBut b H H') (n : a ≠ b) : WellAt H' a c := by
  obtain ⟨x, y, z, e, h1, h2, h3, h4⟩ := h
  exact ⟨x, y, z, s _ _ n e, h1, h2, h3, h4⟩
/-! ### promises of the law's helpers -/
def spCell (K : PySem.W.Frag) : Sp := fun vs H Q _ => ∃ (a : Addr) (ns : List Int) (k : Nat), vs = [.ref a, .int k] ∧ SqL K H a (ns.map V.int) ∧ Q (.int (ns.getD k 0)) H
def spWell : Sp := fun vs H Q _ => ∃ c : Int, vs = [.int c] ∧ ∀ p : Addr, H p = none → ∀ H', Same H H' → WellAt H' p 0 → Q (.ref p) H'
/-- a number from 0 to below m; the well has at most one more -/
def spDraw : Sp := fun vs H Q _ => ∃ (a : Addr) (c m : Int), vs = [.ref a, .int m] ∧ WellAt H a c ∧ c ≤ 1000000000 ∧ 0 < m ∧ m.natAbs < 2 ^ 9000 ∧
  ∀ (r : Int) (H' : Hp), 0 ≤ r → r < m → SameBut a H H' → (∀ b, H b = none → H' b = none) → WellAt H' a (c + 1) → Q (.int r) H'
def topS (i : Nat) : Stmt := PySem.Challenge.pw_echobound_k84_whole_words_fitted.main.body.getD i (.Pass ⟨0, 0, 0, 0⟩)
abbrev s_is_whole : Stmt := topS 5
abbrev s_is_fraction : Stmt := topS 6
abbrev s_shared_divisor : Stmt := topS 7
abbrev s_lowest : Stmt := topS 8
abbrev s_plus : Stmt := topS 9
abbrev s_minus : Stmt := topS 10
abbrev s_is_fractions : Stmt := topS 12
abbrev s_common_bottom : Stmt := topS 13
abbrev s_cleared : Stmt := topS 14
abbrev s_floor_of : Stmt := topS 18
abbrev s_check_values : Stmt := topS 19
abbrev s_by_greatest_rest : Stmt := topS 20
abbrev s_price_of_raising : Stmt := topS 21
abbrev s_fitted : Stmt := topS 22
abbrev s__law_cell_at : Stmt := topS 24
abbrev s__law_well : Stmt := topS 25
abbrev s__law_draw : Stmt := topS 26
abbrev s__law_low : Stmt := topS 27
abbrev s__law_value : Stmt := topS 28
abbrev s__law_off : Stmt := topS 29
abbrev s__law_kept : Stmt := topS 30
abbrev s__law_no_better : Stmt := topS 31
abbrev s__law_right : Stmt := topS 32
abbrev s_law : Stmt := topS 33
section
variable {P : Program} {w : World} {K : PySem.W.Frag} {mg : Str → Option Value} {base : Heap}
end
end E1

namespace E1
open PySem PySem.Spec PyProof.Rows L2

def CalD (P : Program) (w : World) (K : PySem.W.Frag) (mg : Str → Option Value) (base : Heap) (k : Nat) (x : Str) (ps : List Str) (dvs : List V) (sp : Sp) : Prop :=
  ∃ (f : Addr) (fd : FuncData) (ds : List Value), mg x = some (.ref f) ∧ PySem.W.keepIn K (.ref f) = true ∧ Vals dvs ds ∧ Binds K fd ps ds ∧ FnOk P w K mg base CX0 k f fd ps sp
theorem pe_cald {X : Cx} {k j : Nat} {x : Str} {ps : List Str} {dvs : List V} {sp : Sp} {e : Expr} {es : List Expr} {t : TA} {p pos : Pos} (c : CalD X.prog X.w X.K X.mg X.base k x ps dvs sp) (hr : Room j X.A) (ha : PA X (e :: es) t) (hle : k ≤ j := by decide) (hg : Gl X x := by rfl)
    (hdb : (x == ("__debug__" : Str)) = false := by decide) (he : starEach (e :: es) X.env = (false, eval e X.env) :: starEach es X.env := by rfl) (hpl : (backTo pos (starEach es X.env)).any (·.1) = false := by rfl) :
    PE X (.Call (.Name x p) (e :: es) [] pos) (tCall sp dvs E0 t) := by
  obtain ⟨f, fd, ds, h1, h2, hd, h3, h4⟩ := c
  exact pe_call h4 (hr.mono hle) hg h1 h2 h3 hd pass0 ha hdb he hpl
def CalK (P : Program) (w : World) (K : PySem.W.Frag) (mg : Str → Option Value) (base : Heap) (k : Nat) (x : Str) (ps : List Str) (n : Nat) (ks : List Str) (gV : List V → List V → List V) (sp : Sp) : Prop :=
  ∃ (f : Addr) (fd : FuncData) (g : List Value → List Value → List Value), mg x = some (.ref f) ∧ PySem.W.keepIn K (.ref f) = true ∧ KBn K fd ps n ks g gV ∧ FnOk P w K mg base CX0 k f fd ps sp
theorem pe_calk {X : Cx} {k j n : Nat} {x : Str} {ps ks : List Str} {gV : List V → List V → List V} {sp : Sp} {e : Expr} {es : List Expr} {kws : List Keyword} {t tk : TA} {p pos : Pos} (c : CalK X.prog X.w X.K X.mg X.base k x ps n ks gV sp) (hr : Room j X.A)
    (ha : PA X (e :: es) t) (hkw : PK X kws tk) (hle : k ≤ j := by decide) (hg : Gl X x := by rfl) (hall : (backToKw pos (keywordEach kws X.env)).all (·.1.isSome) = true := by rfl) (hks : (backToKw pos (keywordEach kws X.env)).filterMap (·.1) = ks := by rfl)
    (hdb : (x == ("__debug__" : Str)) = false := by decide) (he : starEach (e :: es) X.env = (false, eval e X.env) :: starEach es X.env := by rfl)
    (hpl : ((backTo pos (starEach (e :: es) X.env)).any (·.1) || (backToKw pos (keywordEach kws X.env)).any (·.1.isNone)) = false := by rfl) :
    PE X (.Call (.Name x p) (e :: es) kws pos) (tCallN n ks.length sp gV E0 t tk) := by
  obtain ⟨f, fd, g, h1, h2, h3, h4⟩ := c
  exact pe_callN h4 (hr.mono hle) hg h1 h2 h3 pass0 ha hkw hall hks hdb he hpl
theorem pe_calk0 {X : Cx} {k j : Nat} {x : Str} {ps ks : List Str} {gV : List V → List V → List V} {sp : Sp} {kws : List Keyword} {tk : TA} {p pos : Pos} (c : CalK X.prog X.w X.K X.mg X.base k x ps 0 ks gV sp) (hr : Room j X.A)
    (hkw : PK X kws tk) (hle : k ≤ j := by decide) (hg : Gl X x := by rfl) (hall : (backToKw pos (keywordEach kws X.env)).all (·.1.isSome) = true := by rfl) (hks : (backToKw pos (keywordEach kws X.env)).filterMap (·.1) = ks := by rfl)
    (hdb : (x == ("__debug__" : Str)) = false := by decide)
    (hpl : ((backTo pos (starEach [] X.env)).any (·.1) || (backToKw pos (keywordEach kws X.env)).any (·.1.isNone)) = false := by rfl) :
    PE X (.Call (.Name x p) [] kws pos) (tCallN 0 ks.length sp gV E0 tNil tk) := by
  obtain ⟨f, fd, g, h1, h2, h3, h4⟩ := c
  refine ⟨fun pins s σ H Q I h => ?_⟩
  refine wpAny_Call_Name_kw (ld_glob I hg h1 ?_ hdb)
  refine PySem.W.callWith_KW0 (h₀ := X.base) I.ok.mod.kin h2 hall (thn (hkw.run pos pins s σ H _ I h) fun ws s2 ⟨zs, H2, I2, rz, l1, l2, q2⟩ => ⟨I2.kIn, ?_⟩) hpl
  rw [hks]
  exact run_fnN (vs := []) (us := []) h4 (hr.mono hle) h3 pass0 I2 .nil rz l1 l2 q2
/-- a class handed to isinstance -/
theorem isiB {K : PySem.W.Frag} {H : Hp} {x : V} {a b : String} {r : Bool} {Q : VK} (ty : TyX K H x (.type a)) (k : kitB a b = some r) (q : Q (.bl r) H) : rIsi K [x, .ty b] H Q :=
  ⟨x, .ty b, .type a, .type b, r, rfl, .ty _, ty, kit_ty k, q⟩
/-- whether a thing is a whole number -/
def WholeIs (K : PySem.W.Frag) (H : Hp) (x : V) (b : Bool) : Prop := (∃ i, x = .int i ∧ b = true) ∨ (∃ c, x = .bl c ∧ b = false) ∨ (b = false ∧ ∃ t : String, TyX K H x (.type t) ∧ kitB t "int" = some false)
theorem WholeIs.int {K : PySem.W.Frag} {H : Hp} (i : Int) : WholeIs K H (.int i) true := .inl ⟨i, rfl, rfl⟩
def spWhole (K : PySem.W.Frag) : Sp := fun vs H Q _ => ∃ (x : V) (b : Bool), vs = [x] ∧ WholeIs K H x b ∧ Q (.bl b) H
/-! ### the mathematics of fractions in lowest terms -/
def gI (t b : Int) : Int := (Int.gcd t b : Nat)
def lowT (t b : Int) : Int := (if b < 0 then -t else t) / gI t b
def lowB (t b : Int) : Int := (if b < 0 then -b else b) / gI t b
theorem gI_neg (t b : Int) : gI (-t) (-b) = gI t b := by
  unfold gI
  rw [Int.neg_gcd, Int.gcd_neg]
theorem gI_pos {t b : Int} (h : b ≠ 0) : 0 < gI t b := by
  have : 0 < Int.gcd t b := Int.gcd_pos_of_ne_zero_right t h
  unfold gI
  omega
theorem gI_le {t b : Int} (h : b ≠ 0) : (gI t b).natAbs ≤ b.natAbs := by
  have d : Int.gcd t b ∣ b.natAbs := Nat.gcd_dvd_right t.natAbs b.natAbs
  have := Nat.le_of_dvd (by omega) d
  unfold gI
  omega
def spShared : Sp := fun vs H Q _ => ∃ t b : Int, vs = [.int t, .int b] ∧ 0 ≤ b ∧ Q (.int (gI t b)) H
def spLow : Sp := fun vs H Q _ => ∃ t b : Int, vs = [.int t, .int b] ∧ b ≠ 0 ∧ b.natAbs < 2 ^ 4000 ∧ ∀ p, H p = none → Q (.ref p) (upd H p (.tup [.int (lowT t b), .int (lowB t b)]))
/-- two fractions at two places; the tops and bottoms told by f and d -/
def spTwo (K : PySem.W.Frag) (pre : Int → Int → Int → Int → Prop) (f d : Int → Int → Int → Int → Int) : Sp := fun vs H Q _ => ∃ (a c : Addr) (t u v x : Int), vs = [.ref a, .ref c] ∧ SqT K H a [.int t, .int u] ∧ SqT K H c [.int v, .int x] ∧
  pre t u v x ∧ 0 < u ∧ 0 < x ∧ t.natAbs < 2 ^ 1900 ∧ u.natAbs < 2 ^ 1900 ∧ v.natAbs < 2 ^ 1900 ∧ x.natAbs < 2 ^ 1900 ∧ ∀ p, H p = none → Q (.ref p) (upd H p (.tup [.int (lowT (f t u v x) (d t u v x)), .int (lowB (f t u v x) (d t u v x))]))
def spUnder (K : PySem.W.Frag) : Sp := fun vs H Q _ => ∃ (a c : Addr) (t u v x : Int), vs = [.ref a, .ref c] ∧ SqT K H a [.int t, .int u] ∧ SqT K H c [.int v, .int x] ∧
  t.natAbs < 2 ^ 1900 ∧ u.natAbs < 2 ^ 1900 ∧ v.natAbs < 2 ^ 1900 ∧ x.natAbs < 2 ^ 1900 ∧ Q (.bl (decide (t * x < v * u))) H
def absI (t : Int) : Int := if t < 0 then -t else t
def spSize (K : PySem.W.Frag) : Sp := fun vs H Q _ => ∃ (a : Addr) (t u : Int), vs = [.ref a] ∧ SqT K H a [.int t, .int u] ∧ ∀ p, H p = none → Q (.ref p) (upd H p (.tup [.int (absI t), .int u]))
def twoT (m : Int) : Int := if m < 0 then 1 else 2 ^ m.toNat
def twoB (m : Int) : Int := if m < 0 then 2 ^ (-m).toNat else 1
def spTwoTo : Sp := fun vs H Q _ => ∃ m : Int, vs = [.int m] ∧ -400 ≤ m ∧ m ≤ 400 ∧ ∀ p, H p = none → Q (.ref p) (upd H p (.tup [.int (twoT m), .int (twoB m)]))
def spIsFrac : Sp := fun vs H Q _ => ∃ (a : Addr) (t u : Int), vs = [.ref a] ∧ H a = some (.tup [.int t, .int u]) ∧ 1 ≤ u ∧ Q (.bl (decide (gI t u = 1))) H
theorem up {x : Nat} {a b : Nat} (h : x < 2 ^ a) (l : a ≤ b) : x < 2 ^ b := Nat.lt_of_lt_of_le h (Nat.pow_le_pow_right (by decide) l)
theorem same_but {H H1 H2 : Hp} {p : Addr} (s : Same H H1) (b : SameBut p H1 H2) (hp : H p = none) : Same H H2 := fun a o e => b a o (ne_of_none e hp) (s a o e)
theorem iteN {c A B : Prop} [Decidable c] (h1 : ¬ c → A) (h2 : c → B) : if (!decide c) = true then A else B := by
  by_cases h : c
  · rw [decide_eq_true h]
    exact iteF (h2 h)
  · rw [decide_eq_false h]
    exact iteT (h1 h)
theorem Same.free {H H' : Hp} {p : Addr} (s : Same H H') (h : H' p = none) : H p = none := by
  cases e : H p with
  | none => rfl
  | some o =>
    rw [s _ _ e] at h
    cases h
structure Zs (mg : Str → Option Value) : Prop where
  isinstance : mg "isinstance" = none
  int : mg "int" = none
  bool : mg "bool" = none
  tuple : mg "tuple" = none
  len : mg "len" = none
  abs : mg "abs" = none
  list : mg "list" = none
  all : mg "all" = none
  sum : mg "sum" = none
  sorted : mg "sorted" = none
  range : mg "range" = none
  enumerate : mg "enumerate" = none
  zip : mg "zip" = none
section
variable {P : Program} {w : World} {K : PySem.W.Frag} {mg : Str → Option Value} {base : Heap}
theorem sc_is_whole : FnScope ["thing"] ["thing"] (defScope s_is_whole) := ⟨rfl, rfl, rfl, by decide +kernel, rfl, by decide +kernel, by decide +kernel⟩
theorem ok_is_whole {f : Addr} {fd : FuncData} {k : Nat} (F : Fun K "is_whole" "is_whole" s_is_whole f fd) (z : Zs mg) : FnOk P w K mg base CX0 (k + 1) f fd ["thing"] (spWhole K) := by
  refine F.ok sc_is_whole (fun vs H Q E h => ?_) (fun cdv A outer s H vs Q E hr h => ?_)
  · obtain ⟨x, b, rfl, _⟩ := h
    rfl
  · obtain ⟨x, b, rfl, hw, q⟩ := h
    refine ⟨_, (pss_one (ps_ret (pe_and (pe_callB call_isi (by rfl) z.isinstance (by decide +kernel) (pa_cons (pv 0) (pa_cons (pe_bltn (v := .ty "int") (by rfl) z.int (by decide +kernel) rfl) pa_nil))) (pe_one (pe_not (pe_callB call_isi (by rfl) z.isinstance (by decide +kernel) (pa_cons (pv 0) (pa_cons (pe_bltn (v := .ty "bool") (by rfl) z.bool (by decide +kernel) rfl) pa_nil)))))))), ?_⟩
    rcases hw with ⟨i, rfl, rfl⟩ | ⟨c, rfl, rfl⟩ | ⟨rfl, t, ty, kt⟩
    · exact ⟨_, rfl, _, .ty "int", _, _, true, rfl, .ty _, .base (.int i), kit_ty (by decide +kernel), _, rfl, iteT ⟨_, rfl, _, .ty "bool", _, _, false, rfl, .ty _, .base (.int i), kit_ty (by decide +kernel), _, rfl, q⟩⟩
    · exact ⟨_, rfl, _, .ty "int", _, _, true, rfl, .ty _, .base (.bl c), kit_ty (by decide +kernel), _, rfl, iteT ⟨_, rfl, _, .ty "bool", _, _, true, rfl, .ty _, .base (.bl c), kit_ty (by decide +kernel), _, rfl, q⟩⟩
    · exact ⟨_, rfl, _, .ty "int", _, _, false, rfl, .ty _, ty, kit_ty kt, _, rfl, iteF q⟩
theorem sc_shared_divisor : FnScope ["top", "bottom", "one", "other"] ["top", "bottom"] (defScope s_shared_divisor) := ⟨rfl, rfl, rfl, by decide +kernel, rfl, by decide +kernel, by decide +kernel⟩
theorem ok_shared_divisor {f : Addr} {fd : FuncData} {k : Nat} (F : Fun K "shared_divisor" "shared_divisor" s_shared_divisor f fd) (z : Zs mg) : FnOk P w K mg base CX0 (k + 1) f fd ["top", "bottom"] spShared := by
  refine F.ok sc_shared_divisor (fun vs H Q E h => ?_) (fun cdv A outer s H vs Q E hr h => ?_)
  · obtain ⟨t, b, rfl, _⟩ := h
    rfl
  · obtain ⟨t, b, rfl, hb, q⟩ := h
    refine ⟨_, (pss_cons (ps_set (i := 2) sc_shared_divisor.nd rfl (.inl rfl) (pe_callB call_abs (by rfl) z.abs (by decide +kernel) (pa_cons (pv 0) pa_nil)))
      (pss_cons (ps_set (i := 3) sc_shared_divisor.nd rfl (.inl rfl) (pv 1))
      (pss_cons (ps_while PassesOwn.never (pt_truth (pv 3) (by intro _; rfl)) (pss_one (ps_par (i := 2) (j := 3) (by rfl) sc_shared_divisor.nd rfl rfl (by decide) rfl rfl (pa_cons (pv 3) (pa_cons (pe_op op_mod (pv 2) (pv 3)) pa_nil)) (by rfl))))
      (pss_one (ps_ret (pv 2)))))), ?_⟩
    refine ⟨_, rfl, _, rfl, ?_⟩
    refine ⟨_, rfl, ?_⟩
    dsimp only [gName, tSeq]
    refine while_by (fun σ H' => H' = H ∧ ∃ m n : Nat, σ = [some (.int t), some (.int b), some (.int (m : Int)), some (.int (n : Int))] ∧ Nat.gcd m n = Int.gcd t b)
      (fun σ _ => match σ with | [_, _, _, some (.int r)] => r.toNat | _ => 0) ⟨rfl, t.natAbs, b.natAbs, ?_, rfl⟩ (fun σ H1 hP => ?_) (fun σ H Q Q' m hh => ?_)
    · have e1 : (if t < 0 then -t else t) = (t.natAbs : Int) := by split <;> omega
      have e2 : b = (b.natAbs : Int) := by omega
      show [some (V.int t), some (V.int b), some (V.int (if t < 0 then -t else t)), some (V.int b)] = _
      rw [e1, ← e2]
    · obtain ⟨rfl, m, n, rfl, hg⟩ := hP
      refine ⟨_, rfl, _, rfl, ?_⟩
      by_cases hn : n = 0
      · subst hn
        have e : ((((0 : Nat) : Int)) != 0) = false := rfl
        rw [e]
        refine iteF ⟨_, rfl, ?_⟩
        rw [Nat.gcd_zero_right] at hg
        have e2 : (m : Int) = gI t b := by
          unfold gI
          rw [hg]
        rw [e2]
        exact q
      · have e : ((n : Int) != 0) = true := by
          rw [bne_iff_ne]
          omega
        rw [e]
        refine iteT ⟨_, rfl, _, rfl, _, rfl, _, _, rfl, rfl, (by omega), _, _, rfl, ⟨⟨rfl, n, m % n, rfl, ?_⟩, ?_⟩⟩
        · rw [← hg, Nat.gcd_comm n (m % n), ← Nat.gcd_rec n m, Nat.gcd_comm]
        · show ((m : Int) % (n : Int)).toNat < ((n : Int)).toNat
          have := Int.emod_lt_of_pos (m : Int) (show (0 : Int) < n by omega)
          have := Int.emod_nonneg (m : Int) (show (n : Int) ≠ 0 by omega)
          omega
    · obtain ⟨v, e, kk, tv, hq⟩ := hh
      exact ⟨v, e, kk, tv, m _ _ hq⟩
theorem sc_lowest : FnScope ["top", "bottom", "shared"] ["top", "bottom"] (defScope s_lowest) := ⟨rfl, rfl, rfl, by decide +kernel, rfl, by decide +kernel, by decide +kernel⟩
theorem ok_lowest {f : Addr} {fd : FuncData} (F : Fun K "lowest" "lowest" s_lowest f fd) (c_shared_divisor : Cal P w K mg base 1 "shared_divisor" ["top", "bottom"] spShared) : FnOk P w K mg base CX0 2 f fd ["top", "bottom"] spLow := by
  refine F.ok sc_lowest (fun vs H Q E h => ?_) (fun cdv A outer s H vs Q E hr h => ?_)
  · obtain ⟨t, b, rfl, _⟩ := h
    rfl
  · obtain ⟨t, b, rfl, hb, hl, q⟩ := h
    refine ⟨_, (pss_cons (ps_if (pt_cmpR op_lt (pv 1) pe_int (nomark _)) (pss_cons (ps_set (i := 0) sc_lowest.nd rfl (.inl rfl) (pe_un un_neg (pv 0)))
      (pss_one (ps_set (i := 1) sc_lowest.nd rfl (.inl rfl) (pe_un un_neg (pv 1))))) pss_nil)
      (pss_cons (ps_set (i := 2) sc_lowest.nd rfl (.inl rfl) (pe_cal c_shared_divisor hr (pa_cons (pv 0) (pa_cons (pv 1) pa_nil))))
      (pss_one (ps_ret (pe_tup (pa_cons (pe_op op_fdivW (pv 0) (pv 2)) (pa_cons (pe_op op_fdivW (pv 1) (pv 2)) pa_nil))))))), ?_⟩
    have g0 := gI_pos (t := t) hb
    have g1 : (gI t b).natAbs < 2 ^ 4000 := Nat.lt_of_le_of_lt (gI_le hb) hl
    refine ⟨_, rfl, _, _, rfl, rfl, _, rfl, ite2 (fun c => ?_) (fun c => ?_)⟩
    · have hc := toB c
      refine ⟨_, rfl, _, rfl, ?_⟩
      refine ⟨_, rfl, _, rfl, ?_⟩
      refine ⟨_, rfl, _, rfl, -t, -b, rfl, by omega, ?_⟩
      rw [gI_neg]
      refine ⟨_, rfl, _, rfl, _, _, rfl, rfl, wide_div g0 g1 (by decide) (by decide), _, rfl, _, rfl, _, _, rfl, rfl, wide_div g0 g1 (by decide) (by decide), (by show 2 ≤ sizeLine; decide), fun p hp => ?_⟩
      have := q p hp
      unfold lowT lowB at this
      rw [if_pos hc, if_pos hc] at this
      exact this
    · have hc := toNB c
      refine ⟨_, rfl, _, rfl, t, b, rfl, by omega, ?_⟩
      refine ⟨_, rfl, _, rfl, _, _, rfl, rfl, wide_div g0 g1 (by decide) (by decide), _, rfl, _, rfl, _, _, rfl, rfl, wide_div g0 g1 (by decide) (by decide), (by show 2 ≤ sizeLine; decide), fun p hp => ?_⟩
      have := q p hp
      unfold lowT lowB at this
      rw [if_neg hc, if_neg hc] at this
      exact this
theorem sc_plus : FnScope ["one", "other"] ["one", "other"] (defScope s_plus) := ⟨rfl, rfl, rfl, by decide +kernel, rfl, by decide +kernel, by decide +kernel⟩
theorem ok_plus {f : Addr} {fd : FuncData} (F : Fun K "plus" "plus" s_plus f fd) (c_lowest : Cal P w K mg base 2 "lowest" ["top", "bottom"] spLow) : FnOk P w K mg base CX0 3 f fd ["one", "other"] (spTwo K (fun t u v x => True) (fun t u v x => t * x + v * u) (fun t u v x => u * x)) := by
  refine F.ok sc_plus (fun vs H Q E h => ?_) (fun cdv A outer s H vs Q E hr h => ?_)
  · obtain ⟨a, c, t, u, v, x, rfl, _⟩ := h
    rfl
  · obtain ⟨a, c, t, u, v, x, rfl, ha, hc, pr, hu, hx, b1, b2, b3, b4, q⟩ := h
    refine ⟨_, (pss_one (ps_ret (pe_cal c_lowest hr (pa_cons (pe_op op_add (pe_op op_mulW (pe_ix ix_tup (pv 0) pe_int (fun _ _ => rfl)) (pe_ix ix_tup (pv 1) pe_int (fun _ _ => rfl))) (pe_op op_mulW (pe_ix ix_tup (pv 1) pe_int (fun _ _ => rfl)) (pe_ix ix_tup (pv 0) pe_int (fun _ _ => rfl)))) (pa_cons (pe_op op_mulW (pe_ix ix_tup (pv 0) pe_int (fun _ _ => rfl)) (pe_ix ix_tup (pv 1) pe_int (fun _ _ => rfl))) pa_nil))))), ?_⟩
    have nz : u * x ≠ 0 := Int.mul_ne_zero (by omega) (by omega)
    refine ⟨_, rfl, a, _, 0, .int t, rfl, rfl, ha, a0, _, rfl, c, _, 1, .int x, rfl, rfl, hc, a1, _, _, rfl, rfl, wide_mul b1 b4 (by decide) (by decide) (by decide), _, rfl, c, _, 0, .int v, rfl, rfl, hc, a0, _, rfl, a, _, 1, .int u, rfl, rfl, ha, a1, _, _, rfl, rfl, wide_mul b3 b2 (by decide) (by decide) (by decide), _, _, rfl, rfl, _, rfl, a, _, 1, .int u, rfl, rfl, ha, a1, _, rfl, c, _, 1, .int x, rfl, rfl, hc, a1, _, _, rfl, rfl, wide_mul b2 b4 (by decide) (by decide) (by decide), _, _, rfl, nz, ?_, q⟩
    exact Nat.lt_of_lt_of_le (wide_lt b2 b4) (Nat.pow_le_pow_right (by decide) (by decide))
theorem sc_minus : FnScope ["one", "other"] ["one", "other"] (defScope s_minus) := ⟨rfl, rfl, rfl, by decide +kernel, rfl, by decide +kernel, by decide +kernel⟩
theorem ok_minus {f : Addr} {fd : FuncData} (F : Fun K "minus" "minus" s_minus f fd) (c_lowest : Cal P w K mg base 2 "lowest" ["top", "bottom"] spLow) : FnOk P w K mg base CX0 3 f fd ["one", "other"] (spTwo K (fun t u v x => True) (fun t u v x => t * x - v * u) (fun t u v x => u * x)) := by
  refine F.ok sc_minus (fun vs H Q E h => ?_) (fun cdv A outer s H vs Q E hr h => ?_)
  · obtain ⟨a, c, t, u, v, x, rfl, _⟩ := h
    rfl
  · obtain ⟨a, c, t, u, v, x, rfl, ha, hc, pr, hu, hx, b1, b2, b3, b4, q⟩ := h
    refine ⟨_, (pss_one (ps_ret (pe_cal c_lowest hr (pa_cons (pe_op op_sub (pe_op op_mulW (pe_ix ix_tup (pv 0) pe_int (fun _ _ => rfl)) (pe_ix ix_tup (pv 1) pe_int (fun _ _ => rfl))) (pe_op op_mulW (pe_ix ix_tup (pv 1) pe_int (fun _ _ => rfl)) (pe_ix ix_tup (pv 0) pe_int (fun _ _ => rfl)))) (pa_cons (pe_op op_mulW (pe_ix ix_tup (pv 0) pe_int (fun _ _ => rfl)) (pe_ix ix_tup (pv 1) pe_int (fun _ _ => rfl))) pa_nil))))), ?_⟩
    have nz : u * x ≠ 0 := Int.mul_ne_zero (by omega) (by omega)
    refine ⟨_, rfl, a, _, 0, .int t, rfl, rfl, ha, a0, _, rfl, c, _, 1, .int x, rfl, rfl, hc, a1, _, _, rfl, rfl, wide_mul b1 b4 (by decide) (by decide) (by decide), _, rfl, c, _, 0, .int v, rfl, rfl, hc, a0, _, rfl, a, _, 1, .int u, rfl, rfl, ha, a1, _, _, rfl, rfl, wide_mul b3 b2 (by decide) (by decide) (by decide), _, _, rfl, rfl, _, rfl, a, _, 1, .int u, rfl, rfl, ha, a1, _, rfl, c, _, 1, .int x, rfl, rfl, hc, a1, _, _, rfl, rfl, wide_mul b2 b4 (by decide) (by decide) (by decide), _, _, rfl, nz, ?_, q⟩
    exact Nat.lt_of_lt_of_le (wide_lt b2 b4) (Nat.pow_le_pow_right (by decide) (by decide))
theorem sc_is_fraction : FnScope ["thing", "top", "bottom"] ["thing"] (defScope s_is_fraction) := ⟨rfl, rfl, rfl, by decide +kernel, rfl, by decide +kernel, by decide +kernel⟩
theorem ok_is_fraction {f : Addr} {fd : FuncData} (F : Fun K "is_fraction" "is_fraction" s_is_fraction f fd) (z : Zs mg) (c_is_whole : Cal P w K mg base 1 "is_whole" ["thing"] (spWhole K)) (c_shared_divisor : Cal P w K mg base 1 "shared_divisor" ["top", "bottom"] spShared) : FnOk P w K mg base CX0 2 f fd ["thing"] spIsFrac := by
  refine F.ok sc_is_fraction (fun vs H Q E h => ?_) (fun cdv A outer s H vs Q E hr h => ?_)
  · obtain ⟨a, t, u, rfl, _⟩ := h
    rfl
  · obtain ⟨a, t, u, rfl, ha, hu, q⟩ := h
    refine ⟨_, (pss_cons (ps_if (PW.pt (pw_or (pt_not (pt_val (pe_callB call_isi (by rfl) z.isinstance (by decide +kernel) (pa_cons (pv 0) (pa_cons (pe_bltn (v := .ty "tuple") (by rfl) z.tuple (by decide +kernel) rfl) pa_nil))))) (pw_or1 (pt_cmpR op_ne (pe_callB call_len_seq (by rfl) z.len PySem.boot_len (pa_cons (pv 0) pa_nil)) pe_int (nomark _))))) (pss_one (ps_ret pe_bl)) pss_nil)
      (pss_cons (ps_asg (pv 0) (pg_tup (by rfl) (pgs_cons (pg_name (i := 1) sc_is_fraction.nd rfl (.inl rfl)) (pgs_cons (pg_name (i := 2) sc_is_fraction.nd rfl (.inl rfl)) pgs_nil))))
      (pss_cons (ps_if (PW.pt (pw_or (pt_not (pt_val (pe_cal c_is_whole hr (pa_cons (pv 1) pa_nil)))) (pw_or (pt_not (pt_val (pe_cal c_is_whole hr (pa_cons (pv 2) pa_nil)))) (pw_or1 (pt_cmpR op_lt (pv 2) pe_int (nomark _)))))) (pss_one (ps_ret pe_bl)) pss_nil)
      (pss_one (ps_ret (pe_cmpR op_eq (pe_cal c_shared_divisor hr (pa_cons (pv 1) (pa_cons (pv 2) pa_nil))) pe_int (nomark _))))))), ?_⟩
    refine ⟨_, rfl, _, .ty "tuple", _, _, true, rfl, .ty _, .base (.tup ha), kit_ty (by decide +kernel), _, rfl, iteF ⟨_, rfl, a, _, rfl, .inr (SqT.of ha), rfl, _, rfl, iteF ?_⟩⟩
    refine ⟨_, rfl, a, _, rfl, SqT.of ha, rfl, _, _, rfl, _, _, rfl, rfl, ?_⟩
    refine ⟨_, rfl, _, _, rfl, .int t, _, rfl, iteF ⟨_, rfl, _, _, rfl, .int u, _, rfl, iteF ⟨_, rfl, _, _, rfl, rfl, _, rfl, ite2 (fun c => ?_) (fun c => ?_)⟩⟩⟩
    · have := toB c
      omega
    · refine ⟨_, rfl, _, rfl, t, u, rfl, by omega, rfl, ?_⟩
      have e : (decide (V.int (gI t u) = V.int 1)) = decide (gI t u = 1) := by
        by_cases h : gI t u = 1
        · rw [h]
          rfl
        · rw [decide_eq_false h, decide_eq_false (fun z => h (V.int.inj z))]
      rw [e]
      exact q
end
end E1

namespace E1
open PySem PySem.Spec PyProof.Rows L2
/-! ### sums and convolutions of fractions -/
def sg (f : Nat → Rat) : Nat → Rat
  | 0 => 0
  | n + 1 => sg f n + f n
theorem sg_congr {f g : Nat → Rat} : ∀ n, (∀ i, i < n → f i = g i) → sg f n = sg g n
  | 0, _ => rfl
  | n + 1, h => by
    show sg f n + f n = sg g n + g n
    rw [sg_congr n fun i hi => h i (by omega), h n (by omega)]
theorem sg_zero {f : Nat → Rat} (n : Nat) (h : ∀ i, i < n → f i = 0) : sg f n = 0 := by
  induction n with
  | zero => rfl
  | succ n ih =>
    show sg f n + f n = 0
    rw [ih fun i hi => h i (by omega), h n (by omega)]
    grind
theorem sg_first (f : Nat → Rat) : ∀ n, sg f (n + 1) = f 0 + sg (fun i => f (i + 1)) n
  | 0 => by
    show 0 + f 0 = f 0 + 0
    grind
  | n + 1 => by
    show sg f (n + 1) + f (n + 1) = f 0 + (sg (fun i => f (i + 1)) n + f (n + 1))
    rw [sg_first f n]
    grind
theorem sg_mul (c : Rat) (f : Nat → Rat) : ∀ n, sg (fun i => c * f i) n = c * sg f n
  | 0 => by
    show (0 : Rat) = c * 0
    grind
  | n + 1 => by
    show sg (fun i => c * f i) n + c * f n = c * (sg f n + f n)
    rw [sg_mul c f n]
    grind
theorem sg_add (f g : Nat → Rat) : ∀ n, sg (fun i => f i + g i) n = sg f n + sg g n
  | 0 => by
    show (0 : Rat) = 0 + 0
    grind
  | n + 1 => by
    show sg (fun i => f i + g i) n + (f n + g n) = sg f n + f n + (sg g n + g n)
    rw [sg_add f g n]
    grind
/-- the place m of the product -/
def cv (f g : Nat → Rat) (m : Nat) : Rat := sg (fun i => f i * g (m - i)) (m + 1)
theorem cv_zero (f g : Nat → Rat) : cv f g 0 = f 0 * g 0 := by
  show 0 + f 0 * g 0 = f 0 * g 0
  grind
theorem cv_succ (f g : Nat → Rat) (m : Nat) : cv f g (m + 1) = f 0 * g (m + 1) + cv (fun i => f (i + 1)) g m := by
  unfold cv
  rw [sg_first]
  congr 1
  apply sg_congr
  intro i hi
  show f (i + 1) * g (m + 1 - (i + 1)) = f (i + 1) * g (m - i)
  rw [show m + 1 - (i + 1) = m - i by omega]
theorem cv_congr {f f' g g' : Nat → Rat} {m : Nat} (h1 : ∀ i, i ≤ m → f i = f' i) (h2 : ∀ i, i ≤ m → g i = g' i) : cv f g m = cv f' g' m := by
  unfold cv
  apply sg_congr
  intro i hi
  rw [h1 i (by omega), h2 (m - i) (by omega)]
theorem cv_lin (f g h : Nat → Rat) (c : Rat) (m : Nat) : cv f (fun i => c * g i + h i) m = c * cv f g m + cv f h m := by
  unfold cv
  rw [← sg_mul, ← sg_add]
  apply sg_congr
  intro i _
  grind
theorem cv_sub (f g h : Nat → Rat) (m : Nat) : cv f (fun i => g i - h i) m = cv f g m - cv f h m := by
  have e := cv_lin f h (fun i => g i - h i) 1 m
  have e2 : (fun i => 1 * h i + (g i - h i)) = g := by
    funext i
    grind
  rw [e2] at e
  grind
/-- the row moved on by one -/
def sh (u : Nat → Rat) : Nat → Rat
  | 0 => 0
  | n + 1 => u n
theorem cv_sh (f u : Nat → Rat) (m : Nat) : cv f (sh u) (m + 1) = cv f u m := by
  unfold cv
  show sg (fun i => f i * sh u (m + 1 - i)) (m + 1) + f (m + 1) * sh u (m + 1 - (m + 1)) = _
  rw [Nat.sub_self]
  show _ + f (m + 1) * 0 = _
  have e : sg (fun i => f i * sh u (m + 1 - i)) (m + 1) = sg (fun i => f i * u (m - i)) (m + 1) := by
    apply sg_congr
    intro i hi
    rw [show m + 1 - i = (m - i) + 1 by omega]
    rfl
  rw [e]
  grind
theorem cv_sh0 (f u : Nat → Rat) : cv f (sh u) 0 = 0 := by
  rw [cv_zero]
  show f 0 * 0 = 0
  grind
theorem cv_swap : ∀ (m : Nat) (f g h : Nat → Rat), cv f (cv g h) m = cv g (cv f h) m
  | 0, f, g, h => by
    rw [cv_zero, cv_zero, cv_zero, cv_zero]
    grind
  | m + 1, f, g, h => by
    have split : ∀ f g : Nat → Rat, cv f (cv g h) (m + 1) = f 0 * (g 0 * h (m + 1)) + f 0 * cv (fun i => g (i + 1)) h m + cv (fun i => f (i + 1)) (cv g h) m := fun f g => by
      rw [cv_succ, cv_succ]
      grind
    have inner : ∀ g : Nat → Rat, cv g h = fun i => g 0 * h i + sh (cv (fun i => g (i + 1)) h) i := fun g => by
      funext i
      cases i with
      | zero =>
        rw [cv_zero]
        show g 0 * h 0 = g 0 * h 0 + 0
        grind
      | succ i => exact cv_succ g h i
    rw [split f g, split g f]
    rw [cv_swap m (fun i => f (i + 1)) g h]
    have e1 : cv (fun i => g (i + 1)) (cv f h) m = f 0 * cv (fun i => g (i + 1)) h m + cv (fun i => g (i + 1)) (sh (cv (fun i => f (i + 1)) h)) m := by
      rw [inner f, cv_lin]
    rw [e1]
    cases m with
    | zero =>
      rw [cv_sh0, cv_zero, cv_zero]
      grind
    | succ m =>
      rw [cv_sh, cv_succ g]
      grind
/-- what vanishes ahead of k -/
theorem cv_low {f g : Nat → Rat} {k m : Nat} (h : ∀ i, i < k → g i = 0) (hm : m ≤ k) : cv f g m = if m = k then f 0 * g k else 0 := by
  cases m with
  | zero =>
    rw [cv_zero]
    split
    · next e => rw [e]
    · rw [h 0 (by omega)]
      grind
  | succ m =>
    rw [cv_succ]
    have z : cv (fun i => f (i + 1)) g m = 0 := by
      unfold cv
      apply sg_zero
      intro i hi
      rw [h (m - i) (by omega)]
      grind
    rw [z]
    split
    · next e =>
      rw [e]
      grind
    · rw [h (m + 1) (by omega)]
      grind
/-- two responses part just where the products do -/
theorem part_at {b t h b' t' h' : Nat → Rat} {n : Nat} (r : ∀ m, m ≤ n → cv b h m = t m) (r' : ∀ m, m ≤ n → cv b' h' m = t' m) (b0 : b 0 ≠ 0) (b0' : b' 0 ≠ 0) :
    ∀ k, k ≤ n → (∀ i, i < k → cv b' t i = cv b t' i) → (∀ i, i < k → h i = h' i) ∧ (h k = h' k ↔ cv b' t k = cv b t' k) := by
  have key : ∀ k, k ≤ n → (∀ i, i < k → h i = h' i) → cv b' t k - cv b t' k = b 0 * b' 0 * (h k - h' k) := fun k hk hh => by
    have e1 : cv b' t k = cv b' (cv b h) k := cv_congr (fun _ _ => rfl) fun i hi => (r i (by omega)).symm
    have e2 : cv b t' k = cv b (cv b' h') k := cv_congr (fun _ _ => rfl) fun i hi => (r' i (by omega)).symm
    rw [e1, e2, cv_swap k b' b h, ← cv_sub]
    have e3 : ∀ m, m ≤ k → cv b' h m - cv b' h' m = if m = k then b' 0 * (h k - h' k) else 0 := fun m hm => by
      rw [← cv_sub, cv_low (k := k) (fun i hi => by show h i - h' i = 0; rw [hh i hi]; grind) hm]
    rw [cv_low (k := k) (fun i hi => by rw [e3 i (by omega), if_neg (by omega)]) (Nat.le_refl k), if_pos rfl, e3 k (Nat.le_refl k), if_pos rfl]
    grind
  intro k
  induction k with
  | zero =>
    intro hk _
    refine ⟨fun i hi => absurd hi (by omega), ?_⟩
    have e := key 0 hk (fun i hi => absurd hi (by omega))
    constructor
    · intro z
      rw [z] at e
      grind
    · intro z
      rw [z] at e
      grind
  | succ k ih =>
    intro hk hh
    obtain ⟨i1, i2⟩ := ih (by omega) fun i hi => hh i (by omega)
    have all : ∀ i, i < k + 1 → h i = h' i := fun i hi => by
      by_cases c : i < k
      · exact i1 i c
      · rw [show i = k by omega]
        exact i2.mpr (hh k (by omega))
    refine ⟨all, ?_⟩
    have e := key (k + 1) hk all
    constructor
    · intro z
      rw [z] at e
      grind
    · intro z
      rw [z] at e
      grind
/-! ### lists of fractions -/
def fn (qs : List Rat) (i : Nat) : Rat := qs.getD i 0
def sumR : List Rat → Rat
  | [] => 0
  | x :: xs => x + sumR xs
def dotR : List Rat → List Rat → Rat
  | x :: xs, y :: ys => x * y + dotR xs ys
  | _, _ => 0
theorem sumR_append : ∀ xs ys : List Rat, sumR (xs ++ ys) = sumR xs + sumR ys
  | [], ys => by
    show sumR ys = 0 + sumR ys
    grind
  | x :: xs, ys => by
    show x + sumR (xs ++ ys) = x + sumR xs + sumR ys
    rw [sumR_append xs ys]
    grind
theorem fn_lt {qs : List Rat} {i : Nat} {q : Rat} (h : qs[i]? = some q) : fn qs i = q := by
  unfold fn
  rw [List.getD_eq_getElem?_getD, h]
  rfl
theorem fn_ge {qs : List Rat} {i : Nat} (h : qs.length ≤ i) : fn qs i = 0 := by
  unfold fn
  rw [List.getD_eq_getElem?_getD, List.getElem?_eq_none h]
  rfl
/-- a sum over the first n places -/
theorem sum_map (f : Nat → Rat) : ∀ n, sumR ((List.range n).map f) = sg f n
  | 0 => rfl
  | n + 1 => by
    rw [List.range_succ, List.map_append, sumR_append, sum_map f n]
    show sg f n + (f n + 0) = sg f n + f n
    grind
theorem sum_filter (f : Nat → Rat) (p : Nat → Bool) : ∀ n, sumR (((List.range n).filter p).map f) = sg (fun i => if p i = true then f i else 0) n
  | 0 => rfl
  | n + 1 => by
    rw [List.range_succ, List.filter_append, List.map_append, sumR_append, sum_filter f p n]
    show _ = sg (fun i => if p i = true then f i else 0) n + (if p n = true then f n else 0)
    congr 1
    by_cases c : p n = true
    · rw [if_pos c, List.filter_cons, if_pos c]
      show f n + 0 = f n
      grind
    · rw [if_neg c, List.filter_cons, if_neg c]
      rfl
theorem sg_more (f : Nat → Rat) (n : Nat) : ∀ m, (∀ i, n ≤ i → i < n + m → f i = 0) → sg f (n + m) = sg f n
  | 0, _ => rfl
  | m + 1, h => by
    show sg f (n + m) + f (n + m) = sg f n
    rw [sg_more f n m fun i h1 h2 => h i h1 (by omega), h (n + m) (by omega) (by omega)]
    grind
theorem sg_upto (f : Nat → Rat) {n m : Nat} (h : ∀ i, (n ≤ i ∨ m ≤ i) → f i = 0) : sg f n = sg f m := by
  by_cases c : n ≤ m
  · have e := sg_more f n (m - n) (fun i h1 _ => h i (.inl h1))
    rw [show n + (m - n) = m by omega] at e
    exact e.symm
  · have e := sg_more f m (n - m) (fun i h1 _ => h i (.inr h1))
    rw [show m + (n - m) = n by omega] at e
    exact e
/-- the law's own sum of a place -/
theorem law_place (xs ys : List Rat) (k : Nat) : sumR (((List.range xs.length).filter fun j => decide (j ≤ k ∧ k < j + ys.length)).map fun j => fn xs j * fn ys (k - j)) = cv (fn xs) (fn ys) k := by
  rw [sum_filter]
  unfold cv
  have e1 : sg (fun i => if decide (i ≤ k ∧ k < i + ys.length) = true then fn xs i * fn ys (k - i) else 0) xs.length = sg (fun i => if decide (i ≤ k ∧ k < i + ys.length) = true then fn xs i * fn ys (k - i) else 0) (k + 1) := by
    apply sg_upto
    intro i hi
    show (if decide (i ≤ k ∧ k < i + ys.length) = true then fn xs i * fn ys (k - i) else 0) = 0
    rcases hi with h | h
    · rw [fn_ge h]
      split
      · grind
      · rfl
    · rw [if_neg (by rw [decide_eq_true_eq]; omega)]
  rw [e1]
  apply sg_congr
  intro i hi
  show (if decide (i ≤ k ∧ k < i + ys.length) = true then fn xs i * fn ys (k - i) else 0) = fn xs i * fn ys (k - i)
  by_cases c : k < i + ys.length
  · rw [if_pos (by rw [decide_eq_true_eq]; omega)]
  · rw [if_neg (by rw [decide_eq_true_eq]; omega), fn_ge (qs := ys) (by omega)]
    grind
/-- two lists place by place -/
theorem dot_map (f g : Nat → Rat) (n : Nat) : ∀ m, dotR ((List.range' n m).map f) ((List.range' n m).map g) = sg (fun i => f (n + i) * g (n + i)) m := by
  intro m
  induction m generalizing n with
  | zero => rfl
  | succ m ih =>
    rw [List.range'_succ, List.map_cons, List.map_cons]
    show f n * g n + dotR ((List.range' (n + 1) m).map f) ((List.range' (n + 1) m).map g) = _
    rw [ih (n + 1), sg_first]
    congr 1
    apply sg_congr
    intro i _
    rw [show n + 1 + i = n + (i + 1) by omega]
theorem drop_range {xs : List Rat} {n m : Nat} (h : n + m ≤ xs.length) : (xs.drop n).take m = (List.range' n m).map (fn xs) := by
  apply List.ext_getElem?
  intro i
  rw [List.getElem?_take, List.getElem?_drop, List.getElem?_map]
  by_cases c : i < m
  · rw [if_pos c, List.getElem?_range' c, List.getElem?_eq_getElem (show n + i < xs.length by omega)]
    show _ = some (fn xs (n + 1 * i))
    rw [Nat.one_mul, fn_lt (List.getElem?_eq_getElem (show n + i < xs.length by omega))]
  · rw [if_neg c, List.getElem?_eq_none (by rw [List.length_range']; omega)]
    rfl
/-- the program's own sum of a place -/
theorem prog_place (xs ys : List Rat) (k : Nat) {f m : Nat} (hf : f = k + 1 - ys.length) (hm : m = min (k + 1) xs.length - f) : dotR ((List.range' f m).map (fn xs)) ((List.range' f m).map fun j => fn ys (k - j)) = cv (fn xs) (fn ys) k := by
  rw [dot_map]
  unfold cv
  have low : sg (fun i => fn xs i * fn ys (k - i)) f = 0 := sg_zero f fun i hi => by
    rw [fn_ge (qs := ys) (by omega)]
    grind
  have cut : ∀ m, sg (fun i => fn xs i * fn ys (k - i)) (f + m) = sg (fun i => fn xs (f + i) * fn ys (k - (f + i))) m := by
    intro m
    induction m with
    | zero => exact low
    | succ m ih =>
      show sg (fun i => fn xs i * fn ys (k - i)) (f + m) + fn xs (f + m) * fn ys (k - (f + m)) = sg (fun i => fn xs (f + i) * fn ys (k - (f + i))) m + fn xs (f + m) * fn ys (k - (f + m))
      rw [ih]
  rw [← cut m]
  by_cases c : k + 1 ≤ xs.length
  · by_cases c2 : f ≤ k + 1
    · rw [show f + m = k + 1 by omega]
    · omega
  · by_cases c2 : f ≤ xs.length
    · rw [show f + m = xs.length by omega]
      have := sg_more (fun i => fn xs i * fn ys (k - i)) xs.length (k + 1 - xs.length) fun i h1 _ => by
        show fn xs i * fn ys (k - i) = 0
        rw [fn_ge h1]
        grind
      rw [show xs.length + (k + 1 - xs.length) = k + 1 by omega] at this
      exact this.symm
    · have m0 : m = 0 := by omega
      rw [m0, Nat.add_zero, low]
      symm
      apply sg_zero
      intro i hi
      show fn xs i * fn ys (k - i) = 0
      by_cases c3 : i < xs.length
      · rw [fn_ge (qs := ys) (by omega)]
        grind
      · rw [fn_ge (qs := xs) (by omega)]
        grind
/-! ### the response -/
/-- the next place behind the row -/
def nxt (t b row : List Rat) : Rat := (fn t row.length - dotR b.tail row.reverse) / fn b 0
def quo (t b : List Rat) : Nat → List Rat
  | 0 => []
  | n + 1 => quo t b n ++ [nxt t b (quo t b n)]
theorem quo_len (t b : List Rat) : ∀ n, (quo t b n).length = n
  | 0 => rfl
  | n + 1 => by
    show (quo t b n ++ [nxt t b (quo t b n)]).length = n + 1
    rw [List.length_append, quo_len t b n]
    rfl
theorem dot_sg : ∀ xs ys : List Rat, dotR xs ys = sg (fun i => fn xs i * fn ys i) ys.length
  | [], ys => by
    symm
    show sg _ _ = 0
    apply sg_zero
    intro i _
    rw [fn_ge (Nat.zero_le _)]
    grind
  | x :: xs, [] => rfl
  | x :: xs, y :: ys => by
    show x * y + dotR xs ys = sg _ (ys.length + 1)
    rw [sg_first, dot_sg xs ys]
    rfl
theorem fn_tail (b : List Rat) (i : Nat) : fn b.tail i = fn b (i + 1) := by
  cases b with
  | nil => rfl
  | cons x xs => rfl
theorem fn_rev (row : List Rat) {i : Nat} (h : i < row.length) : fn row.reverse i = fn row (row.length - 1 - i) := by
  unfold fn
  rw [List.getD_eq_getElem?_getD, List.getD_eq_getElem?_getD, List.getElem?_reverse h]
theorem quo_fn (t b : List Rat) {i : Nat} : ∀ {n m : Nat}, i < n → n ≤ m → fn (quo t b m) i = fn (quo t b n) i := by
  intro n m h1 h2
  induction m with
  | zero => omega
  | succ m ih =>
    by_cases c : n ≤ m
    · rw [← ih c]
      show fn (quo t b m ++ [_]) i = _
      unfold fn
      rw [List.getD_eq_getElem?_getD, List.getD_eq_getElem?_getD, List.getElem?_append_left (by rw [quo_len]; omega)]
    · rw [show n = m + 1 by omega]
theorem quo_ok (t b : List Rat) (b0 : fn b 0 ≠ 0) (n k : Nat) (h : k < n) : cv (fn b) (fn (quo t b n)) k = fn t k := by
  have e0 : cv (fn b) (fn (quo t b n)) k = cv (fn b) (fn (quo t b (k + 1))) k := cv_congr (fun _ _ => rfl) fun i hi => quo_fn t b (show i < k + 1 by omega) (by omega)
  rw [e0]
  have last : fn (quo t b (k + 1)) k = nxt t b (quo t b k) := by
    show fn (quo t b k ++ [nxt t b (quo t b k)]) k = _
    apply fn_lt
    rw [List.getElem?_append_right (by rw [quo_len]; exact Nat.le_refl _), quo_len, Nat.sub_self]
    rfl
  have den : fn b 0 * nxt t b (quo t b k) = fn t k - dotR b.tail (quo t b k).reverse := by
    unfold nxt
    rw [quo_len]
    grind
  unfold cv
  rw [sg_first]
  show fn b 0 * fn (quo t b (k + 1)) (k - 0) + _ = _
  rw [Nat.sub_zero, last, den, dot_sg, List.length_reverse, quo_len]
  have e : sg (fun i => fn b (i + 1) * fn (quo t b (k + 1)) (k - (i + 1))) k = sg (fun i => fn b.tail i * fn (quo t b k).reverse i) k := by
    apply sg_congr
    intro i hi
    rw [fn_tail, fn_rev _ (by rw [quo_len]; exact hi), quo_len, show k - (i + 1) = k - 1 - i by omega]
    rw [quo_fn t b (n := k) (m := k + 1) (by omega) (by omega)]
  rw [e]
  grind
/-! ### fractions in lowest terms -/
theorem lowT_num {t b : Int} (hb : b ≠ 0) : lowT t b = (Rat.divInt t b).num := by
  rw [Rat.num_divInt]
  unfold lowT gI
  rw [Int.gcd_comm b t]
  split
  · next h =>
    rw [Int.sign_eq_neg_one_of_neg h, Int.neg_mul, Int.one_mul]
  · next h =>
    rw [Int.sign_eq_one_of_pos (by omega), Int.one_mul]
theorem lowB_den {t b : Int} (hb : b ≠ 0) : lowB t b = ((Rat.divInt t b).den : Int) := by
  rw [Rat.den_divInt, if_neg hb]
  unfold lowB gI
  rw [Int.gcd_comm b t, Int.natCast_ediv]
  congr 1
  split <;> omega
theorem den_ne (q : Rat) : (q.den : Int) ≠ 0 := by
  have := q.den_pos
  omega
theorem den_ge (q : Rat) : (0 : Int) < q.den := by
  have := q.den_pos
  omega
theorem q_eq (q : Rat) : q * (q.den : Int) = (q.num : Rat) := by
  have h := Rat.num_divInt_den q
  rw [Rat.divInt_eq_div] at h
  have d : ((q.den : Int) : Rat) ≠ 0 := by
    intro z
    have : (q.den : Int) = 0 := by exact_mod_cast z
    exact den_ne q this
  grind
theorem cast_ne {n : Int} (h : n ≠ 0) : (n : Rat) ≠ 0 := fun z => h (by exact_mod_cast z)
theorem div_q {t b : Int} (h : b ≠ 0) : Rat.divInt t b * (b : Rat) = (t : Rat) := by
  rw [Rat.divInt_eq_div]
  have := cast_ne h
  grind
theorem div_is {t b : Int} (h : b ≠ 0) {q : Rat} (e : q * (b : Rat) = (t : Rat)) : Rat.divInt t b = q := by
  have := div_q (t := t) h
  have := cast_ne h
  grind
theorem minus_q (q r : Rat) : Rat.divInt (q.num * r.den - r.num * q.den) (q.den * r.den) = q - r := by
  apply div_is (Int.mul_ne_zero (den_ne q) (den_ne r))
  have a := q_eq q
  have b := q_eq r
  push_cast at *
  grind
theorem times_q (q r : Rat) : Rat.divInt (q.num * r.num) (q.den * r.den) = q * r := by
  apply div_is (Int.mul_ne_zero (den_ne q) (den_ne r))
  have a := q_eq q
  have b := q_eq r
  push_cast at *
  grind
theorem num_ne {q : Rat} (h : q ≠ 0) : q.num ≠ 0 := fun z => by
  have a := q_eq q
  rw [z] at a
  have d := cast_ne (den_ne q)
  have : ((0 : Int) : Rat) = 0 := rfl
  grind
theorem num_eq {q : Rat} (h : q.num = 0) : q = 0 := by
  by_cases c : q = 0
  · exact c
  · exact absurd h (num_ne c)
theorem divided_q (q r : Rat) (h : r ≠ 0) : Rat.divInt (q.num * r.den) (q.den * r.num) = q / r := by
  apply div_is (Int.mul_ne_zero (den_ne q) (num_ne h))
  have a := q_eq q
  have b := q_eq r
  have d1 := cast_ne (den_ne q)
  have d2 := cast_ne (den_ne r)
  push_cast at *
  grind
theorem q_gcd (q : Rat) : gI q.num q.den = 1 := by
  have := q.reduced
  unfold gI
  show ((Nat.gcd q.num.natAbs (q.den : Int).natAbs : Nat) : Int) = 1
  rw [Int.natAbs_natCast, this]
  rfl
/-! ### sizes -/
def Sc (D : Int) (B : Nat) (q : Rat) : Prop := ∃ n : Int, q * (D : Rat) = (n : Rat) ∧ n.natAbs ≤ B
theorem Sc.cross {D : Int} {B : Nat} {q : Rat} (h : Sc D B q) : ∃ n : Int, q.num * D = n * q.den ∧ n.natAbs ≤ B := by
  obtain ⟨n, e, b⟩ := h
  refine ⟨n, ?_, b⟩
  have a := q_eq q
  have : ((q.num * D : Int) : Rat) = ((n * q.den : Int) : Rat) := by
    push_cast
    push_cast at a
    grind
  exact_mod_cast this
theorem Sc.den {D : Int} {B : Nat} {q : Rat} (h : Sc D B q) : (q.den : Int) ∣ D := by
  obtain ⟨n, e, _⟩ := h.cross
  have d : q.den ∣ q.num.natAbs * D.natAbs := by
    have e2 := congrArg Int.natAbs e
    rw [Int.natAbs_mul, Int.natAbs_mul, Int.natAbs_natCast] at e2
    exact ⟨n.natAbs, by rw [e2, Nat.mul_comm]⟩
  have g : Nat.Coprime q.den q.num.natAbs := Nat.Coprime.symm q.reduced
  have := g.dvd_of_dvd_mul_left d
  exact Int.dvd_natAbs.mp (by exact_mod_cast this)
theorem Sc.num {D : Int} {B : Nat} {q : Rat} (h : Sc D B q) (hD : D ≠ 0) : q.num.natAbs ≤ B := by
  have dv := h.den
  obtain ⟨n, e, b⟩ := h.cross
  have l : q.den ≤ D.natAbs := by
    have : (q.den : Int).natAbs ∣ D.natAbs := Int.natAbs_dvd_natAbs.mpr dv
    rw [Int.natAbs_natCast] at this
    exact Nat.le_of_dvd (by omega) this
  have e2 := congrArg Int.natAbs e
  rw [Int.natAbs_mul, Int.natAbs_mul, Int.natAbs_natCast] at e2
  have h1 : q.num.natAbs * D.natAbs ≤ n.natAbs * D.natAbs := by
    rw [e2]
    exact Nat.mul_le_mul_left _ l
  exact Nat.le_trans (Nat.le_of_mul_le_mul_right h1 (by omega)) b
theorem Sc.mono {D : Int} {B C : Nat} {q : Rat} (h : Sc D B q) (l : B ≤ C) : Sc D C q := by
  obtain ⟨n, e, b⟩ := h
  exact ⟨n, e, by omega⟩
theorem Sc.scale {D k : Int} {B : Nat} {q : Rat} (h : Sc D B q) : Sc (D * k) (B * k.natAbs) q := by
  obtain ⟨n, e, b⟩ := h
  refine ⟨n * k, ?_, ?_⟩
  · push_cast
    grind
  · rw [Int.natAbs_mul]
    exact Nat.mul_le_mul_right _ b
theorem Sc.add {D : Int} {B C : Nat} {q r : Rat} (h : Sc D B q) (g : Sc D C r) : Sc D (B + C) (q + r) := by
  obtain ⟨n, e, b⟩ := h
  obtain ⟨m, f, c⟩ := g
  refine ⟨n + m, ?_, by omega⟩
  push_cast
  grind
theorem Sc.mul {D E : Int} {B C : Nat} {q r : Rat} (h : Sc D B q) (g : Sc E C r) : Sc (D * E) (B * C) (q * r) := by
  obtain ⟨n, e, b⟩ := h
  obtain ⟨m, f, c⟩ := g
  refine ⟨n * m, ?_, by rw [Int.natAbs_mul]; exact Nat.mul_le_mul b c⟩
  push_cast
  grind
theorem Sc.zero {D : Int} {B : Nat} : Sc D B 0 := ⟨0, by push_cast; grind, Nat.zero_le _⟩
/-- the step of a response, with whole numbers -/
theorem horner {D β0 : Int} {B C : Nat} (hB : β0.natAbs ≤ B) (hC : 6 * B ≤ C) : ∀ (bs hs : List Rat) (k : Nat), (∀ b ∈ bs, Sc D B b) → (∀ i q, hs[i]? = some q → i < k ∧ Sc (β0 ^ (k - i)) (C ^ (k - i)) q) →
    ∃ S : Int, dotR bs hs * (D : Rat) * ((β0 ^ k : Int) : Rat) = (S : Rat) ∧ 5 * S.natAbs ≤ C ^ (k + 1)
  | [], hs, k, _, _ => ⟨0, by show (0 : Rat) * _ * _ = _; push_cast; grind, by simp⟩
  | b :: bs, [], k, _, _ => ⟨0, by show (0 : Rat) * _ * _ = _; push_cast; grind, by simp⟩
  | b :: bs, h :: hs, k, h1, h2 => by
    obtain ⟨k0, m, em, bm⟩ := h2 0 h rfl
    obtain ⟨j, rfl⟩ : ∃ j, k = j + 1 := ⟨k - 1, by omega⟩
    obtain ⟨S, eS, bS⟩ := horner hB hC bs hs j (fun x hx => h1 x (List.mem_cons_of_mem _ hx)) fun i q hq => by
      obtain ⟨l1, l2⟩ := h2 (i + 1) q hq
      rw [show j + 1 - (i + 1) = j - i by omega] at l2
      exact ⟨by omega, l2⟩
    obtain ⟨n, en, bn⟩ := h1 b List.mem_cons_self
    refine ⟨n * m + β0 * S, ?_, ?_⟩
    · show (b * h + dotR bs hs) * (D : Rat) * ((β0 ^ (j + 1) : Int) : Rat) = _
      rw [Nat.sub_zero] at em
      have p : ((β0 ^ (j + 1) : Int) : Rat) = (β0 : Rat) * ((β0 ^ j : Int) : Rat) := by
        rw [Int.pow_succ]
        push_cast
        grind
      push_cast at *
      grind
    · rw [Nat.sub_zero] at bm
      have t1 : (n * m).natAbs ≤ B * C ^ (j + 1) := by
        rw [Int.natAbs_mul]
        exact Nat.mul_le_mul bn bm
      have t2 : (β0 * S).natAbs ≤ B * S.natAbs := by
        rw [Int.natAbs_mul]
        exact Nat.mul_le_mul_right _ hB
      have t3 := Int.natAbs_add_le (n * m) (β0 * S)
      have t4 : 5 * (B * S.natAbs) ≤ B * C ^ (j + 1) := by
        rw [show 5 * (B * S.natAbs) = B * (5 * S.natAbs) by rw [← Nat.mul_assoc, Nat.mul_comm 5 B, Nat.mul_assoc]]
        exact Nat.mul_le_mul_left _ bS
      have t5 : 6 * (B * C ^ (j + 1)) ≤ C ^ (j + 1 + 1) := by
        rw [← Nat.mul_assoc, Nat.pow_succ C (j + 1), Nat.mul_comm (C ^ (j + 1)) C]
        exact Nat.mul_le_mul_right _ hC
      omega
theorem nxt_sc {D β0 : Int} {B C : Nat} {t b row : List Rat} (hD : D ≠ 0) (h0 : fn b 0 * (D : Rat) = (β0 : Rat)) (hn : β0 ≠ 0) (hB : β0.natAbs ≤ B) (hC : 6 * B ≤ C) (hb : ∀ x ∈ b, Sc D B x) (ht : ∀ i, Sc D B (fn t i))
    (hr : ∀ i q, row[i]? = some q → Sc (β0 ^ (i + 1)) (C ^ (i + 1)) q) : Sc (β0 ^ (row.length + 1)) (C ^ (row.length + 1)) (nxt t b row) := by
  obtain ⟨S, eS, bS⟩ := horner hB hC b.tail row.reverse row.length (fun x hx => hb x (List.mem_of_mem_tail hx)) fun i q hq => by
    have li : i < row.length := by
      have := (List.getElem?_eq_some_iff.mp hq).1
      rw [List.length_reverse] at this
      exact this
    rw [List.getElem?_reverse li] at hq
    have := hr _ q hq
    rw [show row.length - 1 - i + 1 = row.length - i by omega] at this
    exact ⟨li, this⟩
  obtain ⟨τ, eτ, bτ⟩ := ht row.length
  refine ⟨τ * β0 ^ row.length - S, ?_, ?_⟩
  · unfold nxt
    have b0 : fn b 0 ≠ 0 := fun z => by
      rw [z] at h0
      have := cast_ne hn
      grind
    have p : ((β0 ^ (row.length + 1) : Int) : Rat) = (β0 : Rat) * ((β0 ^ row.length : Int) : Rat) := by
      rw [Int.pow_succ]
      push_cast
      grind
    rw [p]
    push_cast at *
    grind
  · have t1 : (τ * β0 ^ row.length).natAbs ≤ B * B ^ row.length := by
      rw [Int.natAbs_mul, Int.natAbs_pow]
      exact Nat.mul_le_mul bτ (Nat.pow_le_pow_left hB _)
    have t2 : 6 * (B * B ^ row.length) ≤ C ^ (row.length + 1) := by
      rw [← Nat.mul_assoc, Nat.pow_succ, Nat.mul_comm (C ^ row.length) C]
      exact Nat.mul_le_mul hC (Nat.pow_le_pow_left (by omega) _)
    have t3 := Int.natAbs_sub_le (τ * β0 ^ row.length) S
    omega
theorem quo_sc {D β0 : Int} {B C : Nat} {t b : List Rat} (hD : D ≠ 0) (h0 : fn b 0 * (D : Rat) = (β0 : Rat)) (hn : β0 ≠ 0) (hB : β0.natAbs ≤ B) (hC : 6 * B ≤ C) (hb : ∀ x ∈ b, Sc D B x) (ht : ∀ i, Sc D B (fn t i)) :
    ∀ n i q, (quo t b n)[i]? = some q → Sc (β0 ^ (i + 1)) (C ^ (i + 1)) q
  | 0, i, q, h => by
    have : ([] : List Rat)[i]? = some q := h
    cases this
  | n + 1, i, q, h => by
    have h' : (quo t b n ++ [nxt t b (quo t b n)])[i]? = some q := h
    by_cases c : i < n
    · rw [List.getElem?_append_left (by rw [quo_len]; exact c)] at h'
      exact quo_sc hD h0 hn hB hC hb ht n i q h'
    · have li := (List.getElem?_eq_some_iff.mp h').1
      rw [List.length_append, quo_len] at li
      have e : i = n := by
        have : i < n + 1 := li
        omega
      subst e
      rw [List.getElem?_append_right (by rw [quo_len]; exact Nat.le_refl _), quo_len, Nat.sub_self] at h'
      cases h'
      have := nxt_sc hD h0 hn hB hC hb ht (row := quo t b i) fun j r hr => quo_sc hD h0 hn hB hC hb ht i j r hr
      rw [quo_len] at this
      exact this
/-! ### one bottom for all -/
def lcmI (c b : Int) : Int := if c % b = 0 then c else c / gI c b * b
theorem gI_dl (c b : Int) : gI c b ∣ c := by
  unfold gI
  exact Int.gcd_dvd_left ..
theorem gI_dr (c b : Int) : gI c b ∣ b := by
  unfold gI
  exact Int.gcd_dvd_right ..
theorem lcmI_ok {c b : Int} (hc : 0 < c) (hb : 0 < b) : 0 < lcmI c b ∧ c ∣ lcmI c b ∧ b ∣ lcmI c b ∧ ∀ D, c ∣ D → b ∣ D → lcmI c b ∣ D := by
  unfold lcmI
  split
  · next h => exact ⟨hc, Int.dvd_refl c, Int.dvd_of_emod_eq_zero h, fun D h1 _ => h1⟩
  · have g0 := gI_pos (t := c) (b := b) (by omega)
    obtain ⟨x, hx⟩ := gI_dl c b
    obtain ⟨y, hy⟩ := gI_dr c b
    have cop : Nat.gcd x.natAbs y.natAbs = 1 := by
      have h := Int.gcd_mul_left (gI c b) x y
      rw [← hx, ← hy] at h
      have h2 : Int.gcd c b = (gI c b).natAbs := by
        unfold gI
        rw [Int.natAbs_natCast]
      rw [h2] at h
      have : (gI c b).natAbs * 1 = (gI c b).natAbs * Int.gcd x y := by
        rw [Nat.mul_one]
        exact h
      exact (Nat.eq_of_mul_eq_mul_left (by omega) this).symm
    generalize gI c b = g at *
    have ex : c / g = x := Int.ediv_eq_of_eq_mul_right (by omega) hx
    rw [ex]
    have x0 : 0 < x := by
      rcases Int.lt_trichotomy x 0 with z | z | z
      · have := Int.mul_neg_of_pos_of_neg g0 z
        omega
      · rw [z, Int.mul_zero] at hx
        omega
      · exact z
    refine ⟨Int.mul_pos x0 hb, ⟨y, ?_⟩, ⟨x, Int.mul_comm _ _⟩, fun D h1 h2 => ?_⟩
    · subst hx hy
      grind
    · obtain ⟨d1, e1⟩ := h1
      obtain ⟨d2, e2⟩ := h2
      have e3 : x * d1 = y * d2 := by
        have : g * (x * d1) = g * (y * d2) := by
          rw [← Int.mul_assoc, ← Int.mul_assoc, ← hx, ← hy, ← e1, ← e2]
        exact Int.eq_of_mul_eq_mul_left (by omega) this
      have yd : y.natAbs ∣ d1.natAbs := by
        have h1 : y.natAbs ∣ x.natAbs * d1.natAbs := by
          rw [← Int.natAbs_mul, e3, Int.natAbs_mul]
          exact ⟨_, rfl⟩
        have cp : Nat.Coprime y.natAbs x.natAbs := Nat.Coprime.symm cop
        exact cp.dvd_of_dvd_mul_left h1
      obtain ⟨k, hk⟩ := Int.natAbs_dvd_natAbs.mp yd
      refine ⟨k, ?_⟩
      subst hx hy hk
      grind
def com (bs : List Int) : Int := bs.foldl lcmI 1
theorem com_ok : ∀ (bs : List Int) (c : Int), 0 < c → (∀ b ∈ bs, 0 < b) → 0 < bs.foldl lcmI c ∧ c ∣ bs.foldl lcmI c ∧ (∀ b ∈ bs, b ∣ bs.foldl lcmI c) ∧ ∀ D, c ∣ D → (∀ b ∈ bs, b ∣ D) → bs.foldl lcmI c ∣ D
  | [], c, hc, _ => ⟨hc, Int.dvd_refl c, fun b h => absurd h List.not_mem_nil, fun D h _ => h⟩
  | b :: bs, c, hc, hb => by
    obtain ⟨a1, a2, a3, a4⟩ := lcmI_ok hc (hb b List.mem_cons_self)
    obtain ⟨i1, i2, i3, i4⟩ := com_ok bs (lcmI c b) a1 fun x hx => hb x (List.mem_cons_of_mem _ hx)
    rw [List.foldl_cons]
    refine ⟨i1, Int.dvd_trans a2 i2, fun x hx => ?_, fun D h1 h2 => i4 D (a4 D h1 (h2 b List.mem_cons_self)) fun x hx => h2 x (List.mem_cons_of_mem _ hx)⟩
    rcases List.mem_cons.mp hx with rfl | hx
    · exact Int.dvd_trans a3 i2
    · exact i3 x hx
/-- tops over one bottom -/
def tops (c : Int) (ps : List (Int × Int)) : List Int := ps.map fun p => p.1 * (c / p.2)
theorem clear_q (c : Int) (hc : c ≠ 0) : ∀ ps : List (Int × Int), (∀ p ∈ ps, 0 < p.2 ∧ p.2 ∣ c) → sumR (ps.map fun p => Rat.divInt p.1 p.2) * (c : Rat) = ((tops c ps).sum : Int)
  | [], _ => by
    show (0 : Rat) * _ = ((0 : Int) : Rat)
    push_cast
    grind
  | p :: ps, h => by
    have i := clear_q c hc ps fun x hx => h x (List.mem_cons_of_mem _ hx)
    obtain ⟨p0, k, hk⟩ := h p List.mem_cons_self
    have e : c / p.2 = k := Int.ediv_eq_of_eq_mul_right (by omega) hk
    show (Rat.divInt p.1 p.2 + sumR (ps.map fun p => Rat.divInt p.1 p.2)) * (c : Rat) = ((p.1 * (c / p.2) + (tops c ps).sum : Int) : Rat)
    rw [e]
    have d := div_q (t := p.1) (show p.2 ≠ 0 by omega)
    have hk2 : (c : Rat) = (p.2 : Rat) * (k : Rat) := by
      rw [hk]
      push_cast
      rfl
    push_cast
    grind
/-- the products that aren't 0 -/
def prods : List Rat → List Rat → List (Int × Int)
  | x :: xs, y :: ys => (if x.num ≠ 0 ∧ y.num ≠ 0 then [(x.num * y.num, (x.den * y.den : Int))] else []) ++ prods xs ys
  | _, _ => []
theorem prods_q : ∀ xs ys : List Rat, sumR ((prods xs ys).map fun p => Rat.divInt p.1 p.2) = dotR xs ys
  | [], _ => rfl
  | _ :: _, [] => rfl
  | x :: xs, y :: ys => by
    show sumR (((if x.num ≠ 0 ∧ y.num ≠ 0 then [(x.num * y.num, (x.den * y.den : Int))] else []) ++ prods xs ys).map fun p => Rat.divInt p.1 p.2) = x * y + dotR xs ys
    rw [List.map_append, sumR_append, prods_q xs ys]
    split
    · show Rat.divInt (x.num * y.num) (x.den * y.den) + 0 + _ = _
      rw [times_q]
      grind
    · next h =>
      have z : x * y = 0 := by
        by_cases c : x.num = 0
        · rw [num_eq c]
          grind
        · have : y.num = 0 := Classical.byContradiction fun w => h ⟨c, w⟩
          rw [num_eq this]
          grind
      rw [z]
      show (0 : Rat) + _ = _
      grind
theorem prods_mem : ∀ {xs ys : List Rat} {p : Int × Int}, p ∈ prods xs ys → ∃ x ∈ xs, ∃ y ∈ ys, p = (x.num * y.num, (x.den * y.den : Int))
  | [], _, p, h => absurd h List.not_mem_nil
  | _ :: _, [], p, h => absurd h List.not_mem_nil
  | x :: xs, y :: ys, p, h => by
    have h' : p ∈ (if x.num ≠ 0 ∧ y.num ≠ 0 then [(x.num * y.num, (x.den * y.den : Int))] else []) ++ prods xs ys := h
    rcases List.mem_append.mp h' with h | h
    · split at h
      · exact ⟨x, List.mem_cons_self, y, List.mem_cons_self, List.mem_singleton.mp h⟩
      · exact absurd h List.not_mem_nil
    · obtain ⟨a, h1, b, h2, e⟩ := prods_mem h
      exact ⟨a, List.mem_cons_of_mem _ h1, b, List.mem_cons_of_mem _ h2, e⟩
/-! ### lists of pairs and of fractions in the heap -/
inductive PrsAt (H : Hp) : List V → List (Int × Int) → Prop where
  | nil : PrsAt H [] []
  | cons {p : Addr} {t b : Int} {vs : List V} {ps : List (Int × Int)} (e : H p = some (.tup [.int t, .int b])) (r : PrsAt H vs ps) : PrsAt H (.ref p :: vs) ((t, b) :: ps)
def pr (q : Rat) : Int × Int := (q.num, (q.den : Int))
abbrev FrsAt (H : Hp) (vs : List V) (qs : List Rat) : Prop := PrsAt H vs (qs.map pr)
def Fr (H : Hp) (p : Addr) (q : Rat) : Prop := H p = some (.tup [.int q.num, .int (q.den : Int)])
def FrL (H : Hp) (a : Addr) (qs : List Rat) : Prop := ∃ vs, H a = some (.lst vs) ∧ FrsAt H vs qs
theorem PrsAt.same {H H' : Hp} {vs : List V} {ps : List (Int × Int)} (h : PrsAt H vs ps) (s : Same H H') : PrsAt H' vs ps := by
  induction h with
  | nil => exact .nil
  | cons e _ ih => exact .cons (s _ _ e) ih
theorem PrsAt.but {H H' : Hp} {a : Addr} {xs : List V} {vs : List V} {ps : List (Int × Int)} (h : PrsAt H vs ps) (s : SameBut a H H') (ha : H a = some (.lst xs)) : PrsAt H' vs ps := by
  induction h with
  | nil => exact .nil
  | cons e _ ih => exact .cons (s _ _ (ne_of e ha (fun z => nomatch z)) e) ih
theorem PrsAt.len {H : Hp} {vs : List V} {ps : List (Int × Int)} (h : PrsAt H vs ps) : vs.length = ps.length := by
  induction h with
  | nil => rfl
  | cons _ _ ih => rw [List.length_cons, List.length_cons, ih]
theorem PrsAt.get {H : Hp} {vs : List V} {ps : List (Int × Int)} (h : PrsAt H vs ps) : ∀ {i : Nat} {v : V}, vs[i]? = some v → ∃ p t b, v = .ref p ∧ ps[i]? = some (t, b) ∧ H p = some (.tup [.int t, .int b]) := by
  induction h with
  | nil => intro i v z; cases z
  | cons e _ ih =>
    intro i v z
    cases i with
    | zero =>
      cases z
      exact ⟨_, _, _, rfl, rfl, e⟩
    | succ i => exact ih z
theorem PrsAt.at {H : Hp} {vs : List V} {ps : List (Int × Int)} (h : PrsAt H vs ps) : ∀ {i : Nat} {x : Int × Int}, ps[i]? = some x → ∃ p, vs[i]? = some (.ref p) ∧ H p = some (.tup [.int x.1, .int x.2]) := by
  induction h with
  | nil => intro i v z; cases z
  | cons e _ ih =>
    intro i v z
    cases i with
    | zero =>
      cases z
      exact ⟨_, rfl, e⟩
    | succ i => exact ih z
theorem PrsAt.app {H : Hp} {vs ws : List V} {ps qs : List (Int × Int)} (h : PrsAt H vs ps) (g : PrsAt H ws qs) : PrsAt H (vs ++ ws) (ps ++ qs) := by
  induction h with
  | nil => exact g
  | cons e _ ih => exact .cons e ih
theorem PrsAt.drop {H : Hp} {vs : List V} {ps : List (Int × Int)} (h : PrsAt H vs ps) : ∀ n, PrsAt H (vs.drop n) (ps.drop n) := by
  induction h with
  | nil => intro n; rw [List.drop_nil, List.drop_nil]; exact .nil
  | cons e r ih =>
    intro n
    cases n with
    | zero => exact .cons e r
    | succ n => exact ih n
theorem PrsAt.take {H : Hp} {vs : List V} {ps : List (Int × Int)} (h : PrsAt H vs ps) : ∀ n, PrsAt H (vs.take n) (ps.take n) := by
  induction h with
  | nil => intro n; rw [List.take_nil, List.take_nil]; exact .nil
  | cons e r ih =>
    intro n
    cases n with
    | zero => exact .nil
    | succ n => exact .cons e (ih n)
theorem FrsAt.get {H : Hp} {vs : List V} {qs : List Rat} (h : FrsAt H vs qs) {i : Nat} {v : V} (e : vs[i]? = some v) : ∃ p q, v = .ref p ∧ qs[i]? = some q ∧ Fr H p q := by
  obtain ⟨p, t, b, e1, e2, e3⟩ := PrsAt.get h e
  rw [List.getElem?_map] at e2
  obtain ⟨q, hq, ee⟩ := Option.map_eq_some_iff.mp e2
  cases ee
  exact ⟨p, q, e1, hq, e3⟩
theorem FrsAt.at {H : Hp} {vs : List V} {qs : List Rat} (h : FrsAt H vs qs) {i : Nat} {q : Rat} (e : qs[i]? = some q) : ∃ p, vs[i]? = some (.ref p) ∧ Fr H p q := PrsAt.at h (x := pr q) (by rw [List.getElem?_map, e]; rfl)
theorem FrsAt.len {H : Hp} {vs : List V} {qs : List Rat} (h : FrsAt H vs qs) : vs.length = qs.length := by
  have := PrsAt.len h
  rw [List.length_map] at this
  exact this
theorem FrsAt.app {H : Hp} {vs ws : List V} {qs rs : List Rat} (h : FrsAt H vs qs) (g : FrsAt H ws rs) : FrsAt H (vs ++ ws) (qs ++ rs) := by
  show PrsAt H _ ((qs ++ rs).map pr)
  rw [List.map_append]
  exact PrsAt.app h g
theorem FrsAt.one {H : Hp} {p : Addr} {q : Rat} (h : Fr H p q) : FrsAt H [.ref p] [q] := .cons h .nil
theorem FrsAt.drop {H : Hp} {vs : List V} {qs : List Rat} (h : FrsAt H vs qs) (n : Nat) : FrsAt H (vs.drop n) (qs.drop n) := by
  show PrsAt H _ ((qs.drop n).map pr)
  rw [List.map_drop]
  exact PrsAt.drop h n
theorem FrsAt.take {H : Hp} {vs : List V} {qs : List Rat} (h : FrsAt H vs qs) (n : Nat) : FrsAt H (vs.take n) (qs.take n) := by
  show PrsAt H _ ((qs.take n).map pr)
  rw [List.map_take]
  exact PrsAt.take h n
theorem FrL.same {H H' : Hp} {a : Addr} {qs : List Rat} (h : FrL H a qs) (s : Same H H') : FrL H' a qs := by
  obtain ⟨vs, e, r⟩ := h
  exact ⟨vs, s _ _ e, PrsAt.same r s⟩
theorem Fr.same {H H' : Hp} {p : Addr} {q : Rat} (h : Fr H p q) (s : Same H H') : Fr H' p q := s _ _ h
theorem Fr.low {H : Hp} {p : Addr} {t b : Int} {q : Rat} (hb : b ≠ 0) (e : Rat.divInt t b = q) (h : H p = some (.tup [.int (lowT t b), .int (lowB t b)])) : Fr H p q := by
  rw [lowT_num hb, lowB_den hb, e] at h
  exact h
/-- as data -/
def frD (q : Rat) : PyData := .tuple [.int q.num, .int (q.den : Int)]
theorem Fr.dp {K : PySem.W.Frag} {H : Hp} {p : Addr} {q : Rat} (h : Fr H p q) : Dp K H (.ref p) (frD q) := .tup (SqT.of h) (.cons (.int _) (.cons (.int _) .nil))
theorem FrsAt.dp {K : PySem.W.Frag} {H : Hp} : ∀ {qs : List Rat} {vs : List V}, FrsAt H vs qs → DpAll K H vs (qs.map frD)
  | [], vs, h => by
    cases h
    exact .nil
  | q :: qs, vs, h => by
    cases h with
    | cons e r => exact .cons (Fr.dp e) (FrsAt.dp r)
theorem frD_eqv (q r : Rat) : PyData.eqv (frD q) (frD r) = decide (q = r) := by
  show PyData.eqv (.tuple [.int q.num, .int (q.den : Int)]) (.tuple [.int r.num, .int (r.den : Int)]) = _
  simp only [PyData.eqv, PyData.eqvAll, Bool.and_true]
  rw [Bool.eq_iff_iff]
  simp only [Bool.and_eq_true, beq_iff_eq, decide_eq_true_eq]
  constructor
  · intro ⟨h1, h2⟩
    exact Rat.ext h1 (by exact_mod_cast h2)
  · intro h
    rw [h]
    exact ⟨rfl, rfl⟩
theorem frDs_eqv : ∀ qs rs : List Rat, PyData.eqvAll (qs.map frD) (rs.map frD) = decide (qs = rs)
  | [], [] => by simp [PyData.eqvAll]
  | [], r :: rs => by simp [PyData.eqvAll]
  | q :: qs, [] => by simp [PyData.eqvAll]
  | q :: qs, r :: rs => by
    rw [List.map_cons, List.map_cons, PyData.eqvAll, frD_eqv, frDs_eqv qs rs, Bool.eq_iff_iff]
    simp
theorem frL_eqv (qs rs : List Rat) : PyData.eqv (.list (qs.map frD)) (.list (rs.map frD)) = decide (qs = rs) := by
  rw [← frDs_eqv]
  simp only [PyData.eqv]
theorem frDs_lay : ∀ qs : List Rat, PyData.canLayAll0 (qs.map frD) = true
  | [] => rfl
  | q :: qs => by
    rw [List.map_cons, PyData.canLayAll0, frDs_lay qs, Bool.and_true]
    rfl
theorem frDs_deep : ∀ qs : List Rat, PyData.depthAll (qs.map frD) ≤ 3
  | [] => by simp [PyData.depthAll]
  | q :: qs => by
    have := frDs_deep qs
    simp only [List.map_cons, PyData.depthAll, frD, PyData.depth]
    omega
theorem frD_shaped (q : Rat) : SeqAt.shaped (frD q) = true := rfl
theorem frL_shaped (qs : List Rat) : SeqAt.shaped (.list (qs.map frD)) = true := by
  have h1 := frDs_deep qs
  have h2 : PyData.depth (.list (qs.map frD)) ≤ 64 := by simp only [PyData.depth]; omega
  show (PyData.canLay0 (.list (qs.map frD)) && decide (PyData.depth (.list (qs.map frD)) ≤ 64)) = true
  rw [Bool.and_eq_true]
  exact ⟨by simp only [PyData.canLay0]; exact frDs_lay qs, decide_eq_true h2⟩

end E1

namespace L2
open PySem PySem.Spec PyProof.Rows
/-! ### sorted(range(n), key=lambda a: -r[a]) -/
section
variable {prog : Program} {w : World} {A : Around} {s : Shared}
theorem lam_neg {f c' c p : Addr} {qual : Str} {params : Arguments} {scope : Scope} {cl : List (Str × Addr)} {pm ctv : Value} {its : Array Value} {i : Nat} {k : Int} {t tk : Tok} {a r : Str} {p1 p2 p3 p4 : Pos}
    (room : A.depth < recursionLimit) (nl : s.heap.NoLimit)
    (ho : s.heap.get? f = some (PySem.W.kla_obj "<lambda>" qual params (.UnaryOp .USub (.Subscript (.Name r p1) (.Name a p2) p3) p4) scope cl pm c' ctv)) (hcd : s.heap.CodeRec (.ref c') qual)
    (hb : bindArgs (PySem.W.kla_fn "<lambda>" qual params (.UnaryOp .USub (.Subscript (.Name r p1) (.Name a p2) p3) p4) scope cl pm (.ref c') ctv) ⟨[.int (i : Nat) t], []⟩ = pure [(a, .int (i : Nat) t)])
    (la : scope.names.lookup a = some .local) (lr : scope.names.lookup r = some .free) (nc : ∀ y ∈ scope.names, y.2 ≠ .cell) (kd : scope.kind = .function) (co : scope.isCoroutine = false) (gen : scope.isGenerator = false)
    (lc : cl.lookup r = some c) (hc : s.heap.IsCell c (some (.ref p))) (hl : s.heap.IsList p its) (hi : its[i]? = some (.int k tk)) (i63 : (i : Int) < 2 ^ 63)
    (d1 : (a == ("__debug__" : Str)) = false) (d2 : (r == ("__debug__" : Str)) = false) (d3 : (r == ("__classdict__" : Str)) = false) :
    wpAny (model prog w) A (call (.ref f) [.int (i : Nat) t]) (PySem.W.KeyPure (.int (-k)) s) (fun _ _ => False) s := by
  have run : codeAny (model prog w) A (.call (.ref f) ⟨[.int (i : Nat) t], []⟩) (fun q s' => ∃ u, q = .ok (.ret u) ∧ PySem.W.KeyPure (.int (-k)) s u s') s := by
    refine PySem.W.kla_callFunE room ho rfl co gen rfl hcd ?_
    rw [hb]
    refine wpAny_pure (wpAny_newFunctionEnv nc (fun y hy => ?_) (fun h₁ hns hsb => ⟨nl.fresh _ hsb, ?_⟩) kd)
    · rw [List.mem_singleton.mp hy]
      exact la
    have still : ∀ b o, s.heap.get? b = some o → h₁.get? b = some o := fun b o e => hsb.extBut b o (Nat.ne_of_lt (Heap.lt_size e)) (Heap.get?_push_of_some _ e)
    show codeAny _ _ (.expr _ (PySem.W.envX qual scope s.heap.objs.size f (.ref c') cl)) _ _
    refine PySem.W.kla_codeExpr (wpAny_UnaryOp (Subscript_ ?_))
    obtain ⟨oc, hoc, hdc⟩ := hc
    refine wpAny_Name (wpAny_loadName_free (env := PySem.W.envX qual scope s.heap.objs.size f (.ref c') cl) kd lr lc ⟨oc, still _ _ hoc, hdc⟩ ?_ d3) d2
    refine wpAny_Name (wpAny_loadName_local (env := PySem.W.envX qual scope s.heap.objs.size f (.ref c') cl) (v := .int (i : Nat) t) kd la hns ?_ ?_) d1
    · show ([(a, Value.int (i : Nat) t)] : List (Str × Value)).lookup a = _
      rw [List.lookup_cons, beq_self_eq_true]
    have hl2 : h₁.IsList p its := Heap.IsList.at hl fun o e => still _ o e
    refine item_listR hl2 (Int.natCast_nonneg i) i63 (by rw [Int.toNat_natCast]; exact hi) ?_ ?_
    · exact neg_int ⟨_, rfl, h₁, _, rfl, still, .int _ _⟩
    · with_unfolding_all rfl
  refine wpAny_call (codeAny_mono run fun q s' hq => ?_)
  obtain ⟨u, rfl, k⟩ := hq
  exact k
theorem sorted_rng {r f : Addr} {n : Nat} {t u v : Tok} {rs : Nat → Int} {E : Value → Shared → Prop} {Q : Value → Shared → Prop} (hh : A.handled = none) (hr : IsRange s.heap r 0 (n : Int) 1 t u v) (hsm : Builtin.Range.small 0 (n : Int) 1 = true) (hn : Builtin.Range.rangeSize 0 (n : Int) 1 = (n : Int)) (n5 : n ≤ 100000) (hu : A.units + 10 < cLine)
    (turn : ∀ (i : Nat) (t : Tok), i < n → ∀ (h : Heap) (tk : Nat), (∀ b o, s.heap.get? b = some o → h.get? b = some o) →
      wpAny (model prog w) A.in1.in1 (call (.ref f) [.int (i : Nat) t]) (PySem.W.KeyPure (.int (-(rs i))) { s with heap := h, toks := tk }) (fun _ _ => False) { s with heap := h, toks := tk })
    (q : ∀ (out : List Value) (h1 h' : Heap) (tk c : Nat), (∀ b o, s.heap.get? b = some o → h1.get? b = some o) → (∀ b o, h1.get? b = some o → h'.get? b = some o) → h'.get? h1.objs.size = some (seqObj "list" out.toArray c) → out.length = n →
      PySem.W.EachIs (fun v (i : Nat) => ∃ t, v = Value.int (i : Nat) t) out ((List.range n).mergeSort fun a b => decide (-(rs a) ≤ -(rs b))) → Q (.ref h1.objs.size) { s with heap := h', toks := tk }) :
    wpAny (model prog w) A (call (.builtin "sorted") [.ref r] [(Str.ofString "key", .ref f)]) Q E s := by
  refine call_function_entry_kw kind_sorted plain_sorted entry_sorted (ksk_s1 _ _) ?_
  unfold Builtin.«sorted»
  refine wpAny_bind (m := checkCount "sorted" 1 1 _) (wpAny_pure ?_)
  refine wpAny_bind (collect_range hh hr hsm hn (by omega) fun h1 tk1 acc hk1 hacc => ?_)
  have hl : acc.toList.length = n := by
    rw [Array.length_toList]
    exact hacc.1
  refine wpAny_bind (wpAny_newList ?_ (by rw [hl]; unfold sizeLine; omega))
  have keep : ∀ b o, s.heap.get? b = some o → (h1.push { cls := .type "list", data := .seq acc.toList.toArray }).get? b = some o := fun b o e => Heap.get?_push_of_some _ (hk1 b o e)
  have fresh : s.heap.get? h1.objs.size = none := by
    cases e : s.heap.get? h1.objs.size with
    | none => rfl
    | some o => exact absurd (Heap.lt_size (hk1 _ _ e)) (Nat.lt_irrefl _)
  have up : ∀ {g : Heap}, PySem.W.KeepsBut h1.objs.size (h1.push { cls := .type "list", data := .seq acc.toList.toArray }) g → ∀ b o, s.heap.get? b = some o → g.get? b = some o := fun {g} kp b o e =>
    kp b o (fun z => by rw [z, fresh] at e; cases e) (keep b o e)
  have each : PySem.W.EachIs (fun v (i : Nat) => ∃ t, v = Value.int (i : Nat) t) acc.toList (List.range n) := by
    refine PySem.W.EachIs.of_zip (by rw [hl, List.length_range]) fun p hp => ?_
    obtain ⟨j, hj⟩ := List.mem_iff_getElem?.mp hp
    rw [List.getElem?_zip_eq_some] at hj
    obtain ⟨e1, e2⟩ := hj
    obtain ⟨lt, e3⟩ := List.getElem?_eq_some_iff.mp e2
    rw [List.getElem_range] at e3
    obtain ⟨t, e4⟩ := hacc.2 j p.1 (by rw [← e1, Array.getElem?_toList])
    refine ⟨t, ?_⟩
    rw [e4, ← e3, Int.mul_one, Int.zero_add]
  show wpAny _ A.in1 (do let _ ← holding [Value.ref h1.objs.size] (call (Value.builtin "list.sort") [Value.ref h1.objs.size] [(Str.ofString "key", Value.ref f)]); ret (Value.ref h1.objs.size)) _ _ { s with heap := h1.push { cls := .type "list", data := .seq acc.toList.toArray }, toks := tk1 }
  refine wpAny_bind (wpAny_holding (PySem.W.list_sort_key_data (s := { s with heap := h1.push { cls := .type "list", data := .seq acc.toList.toArray }, toks := tk1 }) (a := h1.objs.size) (n := 0) (b := false) (R := fun v (i : Nat) => ∃ t, v = Value.int (i : Nat) t) (bs := List.range n) (fun i => .int (-(rs i))) (Heap.get?_push_size _ rfl) each
    (PySem.W.AllAlike.of fun _ _ => by simp [PySem.W.alike]) (PySem.W.Sortable.others fun _ => ⟨(fun z => nomatch z), (fun _ z => nomatch z)⟩) (by rw [List.length_range]; unfold sizeLine; omega) (fun i _ => by show A.in1.units + 1 + 0 < cLine; have := A.in1_units; omega) (ksk_l1 _ _) (ksk_t1 _ _)
    (fun v i hv hi h tk kp => ?_) fun out c h' tk kp hD hlen eo => ?_))
  · obtain ⟨t, rfl⟩ := hv
    exact turn i t (List.mem_range.mp hi) h tk (up kp)
  · rw [PySem.W.dataLe_int] at eo
    rw [List.length_range] at hlen
    exact wpAny_pure ⟨_, rfl, q out h1 h' tk c hk1 (fun b o e => kp b o (Nat.ne_of_lt (Heap.lt_size e)) (Heap.get?_push_of_some _ e)) hD hlen eo⟩
end
section
variable {X : Cx}
def tSortNeg (T : List (Addr × Str)) (ta : TA) (ir : Nat) : TE := fun σ H Q => ta σ H fun vs H1 => ∃ (n : Nat) (p : Addr) (rs : List Int), vs = [V.int (n : Nat)] ∧ n ≤ 100000 ∧ σ[ir]? = some (some (.ref p)) ∧ H1 p = some (.lst (rs.map V.int)) ∧ rs.length = n ∧ LamX.Tabs T H1 ∧
  ∀ (H2 : Hp) (l : Addr) (ns : List Nat), LamX.ExtN H1 H2 → LamX.Tabs T H2 → H2 l = none → ns.Perm (List.range n) → ns.Pairwise (fun a b => rs.getD b 0 ≤ rs.getD a 0) → Q (.ref l) (upd H2 l (.lst (ns.map fun i => V.int (i : Nat))))
/-- the scope of lambda a: -r[a] -/
structure LamNeg (sc scope : Scope) (a r : Str) : Prop where
  kd : scope.kind = .function
  co : scope.isCoroutine = false
  gen : scope.isGenerator = false
  la : scope.names.lookup a = some .local
  lr : scope.names.lookup r = some .free
  nc : ∀ y ∈ scope.names, y.2 ≠ .cell
  free : ∀ y ∈ scope.names, y.2 = .free → sc.names.lookup y.1 = some .cell ∨ sc.names.lookup y.1 = some .free
theorem size_rng (n : Nat) : Builtin.Range.rangeSize 0 (n : Int) 1 = (n : Int) := by
  unfold Builtin.Range.rangeSize
  simp
  omega
theorem small_rng {n : Nat} (h : n ≤ 100000) : Builtin.Range.small 0 (n : Int) 1 = true := small_one (by omega) (by omega) (by omega) (by omega)
theorem each_vals : ∀ {out : List Value} {ns : List Nat}, PySem.W.EachIs (fun v (i : Nat) => ∃ t, v = Value.int (i : Nat) t) out ns → Vals (ns.map fun i => V.int (i : Nat)) out
  | [], [], .nil => .nil
  | _ :: _, _ :: _, .cons r h => .cons r (each_vals h)
theorem pe_sortNeg {T : List (Addr × Str)} {c P : Addr} {e : Expr} {ta : TA} {p q p1 p2 p3 p4 lp kp pos pos2 : Pos} {pr : Arguments} {sc : Scope} {a r : Str} {ir k : Nat} (hcm : X.calm = true) (rm : Room k X.A) (gs : Gl X "sorted") (ms : X.mg "sorted" = none) (gr : Gl X "range") (mr : X.mg "range" = none) (ha : PA X [e] ta)
    (TB : LamX.TabB X.base X.mg c P) (hN : X.N[ir]? = some r) (L : LamNeg X.env.scope sc a r) (hc : X.env.code = .ref c := by rfl) (hm : (P, X.env.qual ++ "<lambda>") ∈ T := by exact List.mem_cons_self) (hu : ∀ z ∈ T, z.1 = P → z.2 = X.env.qual ++ "<lambda>" := by (intro p hp _; cases List.mem_singleton.mp hp; rfl)) (hd : defaultsOf pr X.env = ([], []) := by rfl)
    (hb : ∀ (i : Int) (t : Tok) (qq : Str) (cl : List (Str × Addr)) (nm cv ctx : Value), bindArgs (PySem.W.kla_fn "<lambda>" qq pr (.UnaryOp .USub (.Subscript (.Name r p1) (.Name a p2) p3) p4) sc cl nm cv ctx) ⟨[.int i t], []⟩ = pure [(a, .int i t)] := by intros; rfl)
    (d1 : (a == ("__debug__" : Str)) = false := by decide) (d2 : (r == ("__debug__" : Str)) = false := by decide) (d3 : (r == ("__classdict__" : Str)) = false := by decide)
    (h1 : starEach [Expr.Call (.Name "range" q) [e] [] pos] X.env = (false, eval (Expr.Call (.Name "range" q) [e] [] pos) X.env) :: starEach [] X.env := by rfl) (h2 : starEach [e] X.env = (false, eval e X.env) :: starEach [] X.env := by rfl)
    (pl : (backTo pos (starEach [] X.env)).any (·.1) = false := by rfl) :
    PE X (.Call (.Name "sorted" p) [.Call (.Name "range" q) [e] [] pos] [⟨some "key", .Lambda pr (.UnaryOp .USub (.Subscript (.Name r p1) (.Name a p2) p3) p4) sc lp, kp⟩] pos2) (tSortNeg T ta ir) := by
  refine ⟨fun pins s σ H Q I h => ?_⟩
  refine wpAny_Call_Name_kw (ld_blt I gs ms (u := .builtin "sorted") (by decide +kernel) ?_)
  refine PyProof.Rows.callWith_kw (args_cons (Call_ (ld_blt I gr mr (u := .type "range") (by decide +kernel) (callWith_type1 (thn (ha.run pos pins s σ H _ I h) fun us t ⟨vs, G, J, rv, qq⟩ => ?_) h2 pl))) h1) (by rw [h1]; rfl) (by rw [h1]; rfl) (by rfl) (by rfl)
  obtain ⟨n, pp, rs, rfl, n5, hsl, hlst, hlen, hT, k⟩ := qq
  cases rv with
  | cons r1 rn =>
  cases rn
  obtain ⟨tk, rfl⟩ := id r1
  refine call_range_1 (args_nil ?_)
  show wpAny _ _ (evalAll [(do let v ← eval (.Lambda pr (.UnaryOp .USub (.Subscript (.Name r p1) (.Name a p2) p3) p4) sc lp) X.env; standAt pos2; pure v)]) _ _ _
  have nR : G t.heap.objs.size = none := J.hok.fresh (Nat.le_refl _)
  have same : ∀ b o, G b = some o → (upd G t.heap.objs.size (.rng 0 (n : Int))) b = some o := fun b o e => by
    rw [upd_ne (ne_of_none e nR)]
    exact e
  have hfree : ∀ y ∈ sc.names, y.2 = .free → ∃ c, X.env.cells.lookup y.1 = some c := fun y hy e => by
    rcases L.free y hy e with z | z
    · exact J.ok.has _ (.inl z)
    · exact J.ok.has _ (.inr z)
  refine wpAny_evalAll_cons (wpAny_bind (LamX.lam_make2 (J.laid (o := .rng 0 (n : Int)) (fun b o e => Heap.get?_push_of_some _ e) (Nat.le_refl _) ⟨_, _, _, Heap.get?_push_size _ rfl⟩) TB hc hm hu (hT.ext same) hd hfree fun f c' pm ctv H2 s2 I2 en T2 ho hn hfr hco => wpAny_bind (wpAny_standAt (wpAny_pure (wpAny_evalAll_nil ?_)))))
  have en2 : LamX.ExtN G H2 := (LamX.ExtN.of same).trans en
  obtain ⟨t0, t1, t2, hrng⟩ := (show ObjOk X.prog X.w H2 s2.heap t.heap.objs.size (.rng 0 (n : Int)) from I2.hok _ _ (en _ _ upd_same (fun _ z => nomatch z)))
  obtain ⟨⟨oc, vs9, t9, hoc, hdc, hvc⟩, _, _⟩ := I2.hok c' _ hco
  obtain ⟨its, rv2, ⟨⟨hp, hpl⟩, _⟩⟩ : ∃ its : List Value, Vals (rs.map V.int) its ∧ s2.heap.IsList pp its.toArray ∧ True := by
    obtain ⟨its, rv2, pl2, _⟩ := I2.list (SqL.of (en2 _ _ hlst (fun _ z => nomatch z)))
    exact ⟨its, rv2, pl2.isList, trivial⟩
  obtain ⟨c3, lc3, hc3⟩ : ∃ c3, (cloFrom X.env.cells sc.names []).lookup r = some c3 ∧ s2.heap.IsCell c3 (some (.ref pp)) := by
    have hf := L.free _ (PySem.mem_of_lookup L.lr) rfl
    obtain ⟨m, _, hl⟩ := I2.loc
    obtain ⟨w', rw', q⟩ := hl ir r _ hN hsl (hf.elim (fun z => .inr (.inl z)) fun z => .inr (.inr z))
    obtain rfl : w' = Value.ref pp := rw'
    rcases q with ⟨z, _⟩ | ⟨_, c3, e3, hc3⟩
    · replace z : X.env.scope.names.lookup r = some .local := z
      rcases hf with y | y <;> rw [show X.env.scope.names.lookup r = _ from y] at z <;> cases z
    · obtain ⟨c4, e4⟩ := mem_lookup (cloFrom_has (cells := X.env.cells) (acc := []) (PySem.mem_of_lookup L.lr))
      rcases cloFrom_mem (PySem.mem_of_lookup e4) with z | ⟨_, z⟩
      · cases z
      · rw [e3] at z
        replace z : c4 = c3 := z
        rw [z] at e4
        exact ⟨c3, e4, hc3⟩
  refine sorted_rng (rs := fun i => rs.getD i 0) (I2.ok.hd hcm) hrng (small_rng n5) (size_rng n) n5 (by have := rm.un; omega) (fun i ti hi h tkn kp => ?_) (fun out h1 h' tkn cc k1 k2 hD hl eo => ?_)
  · obtain ⟨w', ew, rw'⟩ := rv2.get (i := i) (x := V.int (rs.getD i 0)) (by
      have li : i < rs.length := by omega
      rw [List.getElem?_map, List.getD_eq_getElem?_getD, List.getElem?_eq_getElem li]
      rfl)
    obtain ⟨tw, rfl⟩ := rw'
    exact lam_neg (A := X.A.in1.in1) (s := { s2 with heap := h, toks := tkn }) (p := pp) (c := c3) (its := its.toArray) (tk := tw) rm.depth (I2.nolimit.keeps kp) (kp _ _ ho) ⟨c', oc, vs9, t9, rfl, kp _ _ hoc, hdc, hvc⟩ (hb _ _ _ _ _ _ _) L.la L.lr L.nc L.kd L.co L.gen lc3 (by obtain ⟨o3, h3, h4⟩ := hc3; exact ⟨o3, kp _ _ h3, h4⟩) (Heap.IsList.at ⟨hp, hpl⟩ fun o e => kp _ o e) (by simpa using ew) (by omega) d1 d2 d3
  · have I3 := (I2.kept (t' := tkn) k1).laid (t' := tkn) (o := .lst (((List.range n).mergeSort fun a b => decide (-(rs.getD a 0) ≤ -(rs.getD b 0))).map fun i => V.int (i : Nat))) k2 (Nat.le_refl _) ⟨?_, out, cc, each_vals eo, hD⟩
    · refine ⟨.ref _, _, I3, rfl, k H2 _ _ en2 T2 ((I2.kept (t' := tkn) k1).hok.fresh (Nat.le_refl _)) (List.mergeSort_perm _ _) ?_⟩
      have hs := List.pairwise_mergeSort (le := fun a b => decide (-(rs.getD a 0) ≤ -(rs.getD b 0))) (fun x y z h1 h2 => decide_eq_true (Int.le_trans (of_decide_eq_true h1) (of_decide_eq_true h2))) (fun x y => by
        rw [Bool.or_eq_true, decide_eq_true_eq, decide_eq_true_eq]
        omega) (List.range n)
      exact hs.imp fun h => by
        have := of_decide_eq_true h
        omega
    · rw [List.length_map, List.length_mergeSort, List.length_range]
      show n ≤ sizeLine
      unfold sizeLine
      omega
end
end L2
namespace L2
open PySem PySem.Spec PyProof.Rows
section
variable {X : Cx}
/-- xs[j], j from 0 on -/
def rGetL (K : PySem.W.Frag) : V → V → Hp → VK → Prop := fun o i H Q => ∃ (p : Addr) (xs : List V) (j : Nat) (v : V), o = .ref p ∧ i = .int (j : Nat) ∧ SqL K H p xs ∧ xs[j]? = some v ∧ Q v H
theorem get_list : PGet X (rGetL X.K) := by
  intro pins s σ H o i ov iv Q I ro ri h
  obtain ⟨p, xs, j, v, rfl, rfl, hq, he, q⟩ := h
  obtain rfl : ov = Value.ref p := ro
  obtain ⟨t, rfl⟩ := ri
  obtain ⟨its, r, pl, hz⟩ := I.list hq
  obtain ⟨w, ew, rw'⟩ := r.get he
  have hl := r.length
  have hn := line63
  have hj := (List.getElem?_eq_some_iff.mp he).1
  exact wpAny_getItem_list pl.isList (by omega) (by omega) (by rw [Int.toNat_natCast]; simpa using ew) ⟨v, H, I, rw', q⟩
end
end L2

namespace E1
open PySem PySem.Spec PyProof.Rows L2

theorem rep_all (n : Nat) : (List.replicate n true).all id = true := by
  rw [List.all_eq_true]
  intro x h
  exact (List.mem_replicate.mp h).2
theorem PrL_get {H : Hp} {vs : List V} {ps : List (Int × Int)} (h : PrsAt H vs ps) {i : Nat} {v : V} (e : vs[i]? = some v) : ∃ p t b, v = .ref p ∧ ps[i]? = some (t, b) ∧ (t, b) ∈ ps ∧ H p = some (.tup [.int t, .int b]) := by
  obtain ⟨p, t, b, e1, e2, e3⟩ := h.get e
  exact ⟨p, t, b, e1, e2, List.mem_of_getElem? e2, e3⟩
/-- pairs whose bottoms are above 0 and divide D -/
def Btm (D : Int) (ps : List (Int × Int)) : Prop := D ≠ 0 ∧ D.natAbs < 2 ^ 2500 ∧ ∀ p ∈ ps, 0 < p.2 ∧ p.2 ∣ D ∧ p.1.natAbs < 2 ^ 3000
theorem Btm.lt {D : Int} {ps : List (Int × Int)} (h : Btm D ps) {b : Int} (hb : 0 < b) (d : b ∣ D) : b.natAbs < 2 ^ 2500 := by
  have : b.natAbs ∣ D.natAbs := Int.natAbs_dvd_natAbs.mpr d
  have := Nat.le_of_dvd (by have := h.1; omega) this
  exact Nat.lt_of_le_of_lt this h.2.1
theorem Btm.com {D : Int} {ps : List (Int × Int)} (h : Btm D ps) : 0 < com (ps.map (·.2)) ∧ com (ps.map (·.2)) ∣ D ∧ ∀ p ∈ ps, p.2 ∣ com (ps.map (·.2)) := by
  have hp : ∀ b ∈ ps.map (·.2), 0 < b ∧ b ∣ D := fun b hb => by
    obtain ⟨p, h1, rfl⟩ := List.mem_map.mp hb
    exact ⟨(h.2.2 p h1).1, (h.2.2 p h1).2.1⟩
  obtain ⟨c1, _, c3, c4⟩ := com_ok (ps.map (·.2)) 1 (by decide) fun b hb => (hp b hb).1
  exact ⟨c1, c4 D (Int.one_dvd D) fun b hb => (hp b hb).2, fun p hp' => c3 _ (List.mem_map.mpr ⟨p, hp', rfl⟩)⟩
theorem Btm.take {D : Int} {ps : List (Int × Int)} (h : Btm D ps) (n : Nat) : Btm D (ps.take n) := ⟨h.1, h.2.1, fun p hp => h.2.2 p (List.mem_of_mem_take hp)⟩
def spIsFrs : Sp := fun vs H Q _ => ∃ (a : Addr) (qs : List Rat), vs = [.ref a] ∧ FrL H a qs ∧ qs.length ≤ 1000 ∧ ∀ H', Same H H' → Q (.bl true) H'
def spCom : Sp := fun vs H Q _ => ∃ (a : Addr) (ws : List V) (ps : List (Int × Int)) (D : Int), vs = [.ref a] ∧ H a = some (.lst ws) ∧ PrsAt H ws ps ∧ Btm D ps ∧ Q (.int (com (ps.map (·.2)))) H
def spCleared : Sp := fun vs H Q _ => ∃ (a : Addr) (ws : List V) (ps : List (Int × Int)) (D : Int), vs = [.ref a] ∧ H a = some (.lst ws) ∧ PrsAt H ws ps ∧ Btm D ps ∧ ps.length ≤ 1000 ∧
  ∀ T l H', Same H H' → H' T = some (.tup [.ref l, .int (com (ps.map (·.2)))]) → H' l = some (.lst ((tops (com (ps.map (·.2))) ps).map V.int)) → Q (.ref T) H'
/-- fractions of a bottom and a size -/
def Bnd (D : Int) (B : Nat) (qs : List Rat) : Prop := D ≠ 0 ∧ D.natAbs < 2 ^ 1000 ∧ B < 2 ^ 1000 ∧ ∀ q ∈ qs, Sc D B q

theorem FrL.len {H : Hp} {a : Addr} {qs : List Rat} (h : FrL H a qs) : ∃ vs, H a = some (.lst vs) ∧ vs.length = qs.length ∧ FrsAt H vs qs := by
  obtain ⟨vs, e, r⟩ := h
  exact ⟨vs, e, FrsAt.len r, r⟩
theorem fn_mem {qs : List Rat} {i : Nat} (h : i < qs.length) : fn qs i ∈ qs := by
  rw [fn_lt (List.getElem?_eq_getElem h)]
  exact List.getElem_mem h
theorem fn_sc {D : Int} {B : Nat} {qs : List Rat} (h : ∀ q ∈ qs, Sc D B q) (i : Nat) : Sc D B (fn qs i) := by
  by_cases c : i < qs.length
  · exact h _ (fn_mem c)
  · rw [fn_ge (by omega)]
    exact .zero
theorem FrsAt.fn {H : Hp} {vs : List V} {qs : List Rat} (h : FrsAt H vs qs) {i : Nat} (hi : i < qs.length) : ∃ p, vs[i]? = some (.ref p) ∧ Fr H p (E1.fn qs i) := by
  obtain ⟨p, h1, h2⟩ := FrsAt.at h (List.getElem?_eq_getElem hi)
  exact ⟨p, h1, by rw [fn_lt (List.getElem?_eq_getElem hi)]; exact h2⟩
def spIsBot : Sp := fun vs H Q _ => ∃ (a : Addr) (qs : List Rat), vs = [.ref a] ∧ FrL H a qs ∧ qs.length ≤ 1000 ∧ 0 < qs.length ∧ fn qs 0 ≠ 0 ∧ ∀ H', Same H H' → Q (.bl true) H'
def spChkS : Sp := fun vs H Q _ => ∃ (a : Addr) (qs : List Rat), vs = [.ref a] ∧ FrL H a qs ∧ qs.length ≤ 1000 ∧ ∀ H', Same H H' → Q .non H'
def spChkB : Sp := fun vs H Q _ => ∃ (a : Addr) (qs : List Rat), vs = [.ref a] ∧ FrL H a qs ∧ qs.length ≤ 1000 ∧ 0 < qs.length ∧ fn qs 0 ≠ 0 ∧ ∀ H', Same H H' → Q .non H'
section
variable {P : Program} {w : World} {K : PySem.W.Frag} {mg : Str → Option Value} {base : Heap}
theorem sc_is_fractions : FnScope ["thing", "one"] ["thing"] (defScope s_is_fractions) := ⟨rfl, rfl, rfl, by decide +kernel, rfl, by decide +kernel, by decide +kernel⟩
theorem ok_is_fractions {f : Addr} {fd : FuncData} (F : Fun K "is_fractions" "is_fractions" s_is_fractions f fd) (z : Zs mg) (c_is_fraction : Cal P w K mg base 2 "is_fraction" ["thing"] spIsFrac) : FnOk P w K mg base CX0 3 f fd ["thing"] spIsFrs := by
  refine F.ok sc_is_fractions (fun vs H Q E h => ?_) (fun cdv A outer s H vs Q E hr h => ?_)
  · obtain ⟨a, qs, rfl, _⟩ := h
    rfl
  · obtain ⟨a, qs, rfl, ⟨vs, ha, hq⟩, hl, q⟩ := h
    refine ⟨_, (pss_one (ps_ret (pe_and (pe_callB call_isi (by rfl) z.isinstance (by decide +kernel) (pa_cons (pv 0) (pa_cons (pe_bltn (v := .ty "list") (by rfl) z.list (by decide +kernel) rfl) pa_nil))) (pe_one (pe_callB (cr_all rfl) (by rfl) z.all (by decide +kernel) (pa_cons (pe_lc (own := [("one", 1)]) (g := gName 1) (tt := tYes) (te := (tCall spIsFrac [] E0 (tCons (tVar 1) tNil))) (by rfl) sc_is_fractions.nd (pi_list (pv 0)) (blkOk_by (own := [("one", 1)]) (N := ["thing", "one"]) (sc := defScope s_is_fractions) (by decide +kernel)) (fun _ _ _ _ _ => by exact (pg_name (i := 1) sc_is_fractions.nd rfl (.inl rfl))) (fun _ _ _ _ _ => by exact pts_nil) (fun _ _ _ _ _ => by exact (pe_cal c_is_fraction hr (pa_cons (pv 1) pa_nil)))) pa_nil)))))), ?_⟩
    have hlen := FrsAt.len hq
    refine ⟨_, rfl, _, .ty "list", _, _, true, rfl, .ty _, .base (.lst ha), kit_ty (by decide +kernel), _, rfl, iteT ⟨_, rfl, a, rfl, ⟨_, SqL.of ha⟩, fun D hD => lc_list (K := K) (a := a) (xs := vs) (fun i H' => Same H H' ∧ H' D = some (.lst (List.replicate i (V.bl true)))) ⟨same_new hD, upd_same⟩ (fun i H' _ hP => SqL.of (hP.1 _ _ ha)) (fun i x H' hx hP => ?_) (fun H' hP => ?_)⟩⟩
    · obtain ⟨s1, hacc⟩ := hP
      obtain ⟨p, r, rfl, hr', hp⟩ := FrsAt.get hq hx
      have hi := (List.getElem?_eq_some_iff.mp hx).1
      have d0 := den_ge r
      refine ⟨rfl, _, rfl, p, r.num, r.den, rfl, s1 _ _ hp, by omega, ?_⟩
      rw [q_gcd, decide_eq_true rfl]
      refine ⟨_, hacc, ?_, fun b o e => ?_, ?_⟩
      · rw [List.length_replicate]
        exact small1000 (by omega)
      · rw [upd_ne (ne_of_none e hD)]
        exact s1 _ _ e
      · rw [upd_same, List.replicate_succ']
    · obtain ⟨s1, hacc⟩ := hP
      refine ⟨D, List.replicate _ true, rfl, SqL.of (by rw [List.map_replicate]; exact hacc), ?_⟩
      rw [rep_all]
      exact q _ s1
theorem sc_common_bottom : FnScope ["pairs", "common", "pair"] ["pairs"] (defScope s_common_bottom) := ⟨rfl, rfl, rfl, by decide +kernel, rfl, by decide +kernel, by decide +kernel⟩
theorem ok_common_bottom {f : Addr} {fd : FuncData} (F : Fun K "common_bottom" "common_bottom" s_common_bottom f fd) (z : Zs mg) (c_shared_divisor : Cal P w K mg base 1 "shared_divisor" ["top", "bottom"] spShared) : FnOk P w K mg base CX0 2 f fd ["pairs"] spCom := by
  refine F.ok sc_common_bottom (fun vs H Q E h => ?_) (fun cdv A outer s H vs Q E hr h => ?_)
  · obtain ⟨a, ws, ps, D, rfl, _⟩ := h
    rfl
  · obtain ⟨a, ws, ps, D, rfl, ha, hp0, hB, q⟩ := h
    refine ⟨_, (pss_cons (ps_set (i := 1) sc_common_bottom.nd rfl (.inl rfl) pe_int)
      (pss_cons (ps_for PassesOwn.never rfl (pi_list (pv 0)) (pg_name (i := 2) sc_common_bottom.nd rfl (.inl rfl)) (pss_one (ps_if (pt_truth (pe_op op_mod (pv 1) (pe_ix ix_tup (pv 2) pe_int (fun _ _ => rfl))) (by intro _; rfl)) (pss_one (ps_set (i := 1) sc_common_bottom.nd rfl (.inl rfl) (pe_op op_mulW (pe_op op_fdivW (pv 1) (pe_cal c_shared_divisor hr (pa_cons (pv 1) (pa_cons (pe_ix ix_tup (pv 2) pe_int (fun _ _ => rfl)) pa_nil)))) (pe_ix ix_tup (pv 2) pe_int (fun _ _ => rfl))))) pss_nil)))
      (pss_one (ps_ret (pv 1))))), ?_⟩
    have hlen := hp0.len
    refine ⟨_, rfl, a, rfl, ⟨_, SqL.of ha⟩, for_list (K := K) (a := a) (xs := ws) (fun i σ H' => H' = H ∧ ∃ y : Option V, σ = [some (.ref a), some (.int (com ((ps.take i).map (·.2)))), y]) ⟨rfl, none, rfl⟩ (fun i σ H' _ hP => hP.1 ▸ SqL.of ha) (fun i x σ H' hx hP => ?_) (fun σ H' hP => ?_)⟩
    · obtain ⟨rfl, y, rfl⟩ := hP
      obtain ⟨p, t, b, rfl, hi, hm, hp⟩ := PrL_get hp0 hx
      obtain ⟨b0, bD, _⟩ := hB.2.2 _ hm
      obtain ⟨c0, cD, _⟩ := (hB.take i).com
      have b1 := hB.lt b0 bD
      have c1 := hB.lt c0 cD
      have e : com ((ps.take (i + 1)).map (·.2)) = lcmI (com ((ps.take i).map (·.2))) b := by
        rw [List.take_succ, hi, Option.toList_some, List.map_append]
        unfold com
        rw [List.foldl_append]
        rfl
      generalize hc : com ((ps.take i).map (·.2)) = c at *
      refine ⟨_, rfl, _, rfl, p, _, 1, .int b, rfl, rfl, SqT.of hp, a1, _, _, rfl, rfl, (by show 0 < b; exact b0), _, rfl, ?_⟩
      by_cases c2 : c % b = 0
      · rw [c2]
        refine iteF ⟨rfl, some (.ref p), ?_⟩
        rw [e]
        unfold lcmI
        rw [if_pos c2]
        rfl
      · have ne : (c % b != 0) = true := by
          rw [bne_iff_ne]
          exact c2
        rw [ne]
        have g0 := gI_pos (t := c) (b := b) (by omega)
        have g1 : (gI c b).natAbs < 2 ^ 2500 := Nat.lt_of_le_of_lt (gI_le (by omega)) b1
        have q1 : (c / gI c b).natAbs < 2 ^ 2500 := by
          have h1 : 0 ≤ c / gI c b := Int.ediv_nonneg (by omega) (by omega)
          have h2 : c / gI c b ≤ c := Int.ediv_le_self _ (by omega)
          omega
        refine iteT ⟨_, rfl, _, rfl, _, rfl, p, _, 1, .int b, rfl, rfl, SqT.of hp, a1, c, b, rfl, by omega, _, _, rfl, rfl, wide_div g0 g1 (by decide) (by decide), _, rfl, p, _, 1, .int b, rfl, rfl, SqT.of hp, a1, _, _, rfl, rfl, wide_mul q1 b1 (by decide) (by decide) (by decide), rfl, some (.ref p), ?_⟩
        rw [e]
        unfold lcmI
        rw [if_neg c2]
        rfl
    · obtain ⟨rfl, y, rfl⟩ := hP
      rw [hlen, List.take_length]
      exact ⟨_, rfl, q⟩
theorem sc_cleared : FnScope ["pairs", "common", "top", "bottom"] ["pairs"] (defScope s_cleared) := ⟨rfl, rfl, rfl, by decide +kernel, rfl, by decide +kernel, by decide +kernel⟩
theorem ok_cleared {f : Addr} {fd : FuncData} (F : Fun K "cleared" "cleared" s_cleared f fd) (c_common_bottom : Cal P w K mg base 2 "common_bottom" ["pairs"] spCom) : FnOk P w K mg base CX0 3 f fd ["pairs"] spCleared := by
  refine F.ok sc_cleared (fun vs H Q E h => ?_) (fun cdv A outer s H vs Q E hr h => ?_)
  · obtain ⟨a, ws, ps, D, rfl, _⟩ := h
    rfl
  · obtain ⟨a, ws, ps, D, rfl, ha, hp0, hB, hl, q⟩ := h
    refine ⟨_, (pss_cons (ps_set (i := 1) sc_cleared.nd rfl (.inr rfl) (pe_cal c_common_bottom hr (pa_cons (pv 0) pa_nil)))
      (pss_one (ps_ret (pe_tup (pa_cons (pe_lc (own := [("top", 2), ("bottom", 3)]) (g := gTup K 2 (gCons (gName 2) (gCons (gName 3) gNil))) (tt := tYes) (te := (tOp (rI CMulW fun i j => V.int (i * j)) (tVar 2) (tOp (rI CDivW fun i j => V.int (i / j)) (tVar 1) (tVar 3)))) (by rfl) sc_cleared.nd (pi_list (pv 0)) (blkOk_by (own := [("top", 2), ("bottom", 3)]) (N := ["pairs", "common", "top", "bottom"]) (sc := defScope s_cleared) (by decide +kernel)) (fun _ _ _ _ _ => by exact (pg_tup (by rfl) (pgs_cons (pg_name (i := 2) sc_cleared.nd rfl (.inl rfl)) (pgs_cons (pg_name (i := 3) sc_cleared.nd rfl (.inl rfl)) pgs_nil)))) (fun _ _ _ _ _ => by exact pts_nil) (fun _ _ _ _ _ => by exact (pe_op op_mulW (pv 2) (pe_op op_fdivW (pv 1) (pv 3))))) (pa_cons (pv 1) pa_nil)))))), ?_⟩
    have hlen := hp0.len
    obtain ⟨c0, cD, cdv⟩ := hB.com
    have c1 := hB.lt c0 cD
    refine ⟨_, rfl, a, ws, ps, D, rfl, ha, hp0, hB, ?_⟩
    generalize com (ps.map (·.2)) = c at *
    refine ⟨_, rfl, a, rfl, ⟨_, SqL.of ha⟩, fun l hD => lc_list (K := K) (a := a) (xs := ws) (fun i H' => Same H H' ∧ H' l = some (.lst ((tops c (ps.take i)).map V.int))) ⟨same_new hD, upd_same⟩ (fun i H' _ hP => SqL.of (hP.1 _ _ ha)) (fun i x H' hx hP => ?_) (fun H' hP => ?_)⟩
    · obtain ⟨s1, hacc⟩ := hP
      obtain ⟨p, t, b, rfl, hi, hm, hp⟩ := PrL_get hp0 hx
      obtain ⟨b0, bD, t1⟩ := hB.2.2 _ hm
      have b1 := hB.lt b0 bD
      have li := (List.getElem?_eq_some_iff.mp hi).1
      have q1 : (c / b).natAbs < 2 ^ 2500 := by
        have h1 : 0 ≤ c / b := Int.ediv_nonneg (by omega) (by omega)
        have h2 : c / b ≤ c := Int.ediv_le_self _ (by omega)
        omega
      refine ⟨p, [.int t, .int b], rfl, SqT.of (s1 _ _ hp), rfl, _, _, rfl, _, _, rfl, rfl, rfl, ?_⟩
      refine ⟨_, rfl, _, rfl, _, rfl, _, _, rfl, rfl, wide_div b0 b1 (by decide) (by decide), _, _, rfl, rfl, wide_mul t1 q1 (by decide) (by decide) (by decide), _, hacc, ?_, fun b' o e => ?_, ?_⟩
      · unfold tops
        rw [List.length_map, List.length_map, List.length_take]
        exact small1000 (by omega)
      · rw [upd_ne (ne_of_none e hD)]
        exact s1 _ _ e
      · rw [upd_same, List.take_succ, hi, Option.toList_some]
        unfold tops
        rw [List.map_append, List.map_append]
        rfl
    · obtain ⟨s1, hacc⟩ := hP
      rw [hlen, List.take_length] at hacc
      refine ⟨_, rfl, (by show 2 ≤ sizeLine; decide), fun T hT => ?_⟩
      exact q T l _ (s1.trans (same_new hT)) upd_same (same_new hT _ _ hacc)
end
end E1

namespace E1
open PySem PySem.Spec PyProof.Rows L2

/-- a def of the text with its code object -/
structure FunC (K : PySem.W.Frag) (x : Str) (st : Stmt) (f : Addr) (fd : FuncData) (c : Addr) : Prop where
  ex : ∃ (oc : Value) (od : Option Addr) (kV doc pm : Value) (an : Option Addr) (ct : Value) (osl : Array (Option Value)),
    fd = PySem.W.fnOf x x (defArgs st) (defBody st) (defScope st) .none kV doc pm an (.ref c) ct ∧ K.lookup f = some ⟨oc, od, .func fd, osl⟩ ∧ PySem.W.codeIn K (.ref c) x = true
theorem FunC.ok {P : Program} {w : World} {K : PySem.W.Frag} {mg : Str → Option Value} {base : Heap} {x : Str} {st : Stmt} {f c : Addr} {fd : FuncData} {N ps : List Str} {k : Nat} {sp : Sp} (F : FunC K x st f fd c) (S : FnScope N ps (defScope st)) (len : ∀ vs H Q E, sp vs H Q E → vs.length = ps.length)
    (hb : ∀ (A : Around) (out : List Env) (s : Shared) (H : Hp) (vs : List V) (Q : VK) (E : XK), Room k (A.deeper (envOfC x (defScope st) s.heap.objs.size f (.ref c))) → sp vs H Q E →
      ∃ t, PSs (cxOf CX0 P w K mg base N x (defScope st) f (.ref c) A out s H E).nox (defBody st) t ∧ t { nx := fun _ H' => Q .non H', rt := Q } (start N vs) H) : FnOk P w K mg base CX0 (k + 1) f fd ps sp := by
  obtain ⟨oc, od, kV, doc, pm, an, ct, osl, rfl, lk, hcd⟩ := F.ex
  exact fn_of lk hcd S len fun A out s H vs Q E hr hsp => let ⟨t, h, q⟩ := hb A out s H vs Q E hr hsp; ⟨t, h.nox, q⟩

def fl (q : Rat) : Int := q.num / (q.den : Int)
def rr (q : Rat) : Int := q.num % (q.den : Int)
/-- what is left over of q is no greater than of q' -/
def RLe (q q' : Rat) : Prop := rr q * (q'.den : Int) ≤ rr q' * (q.den : Int)
def spFloor : Sp := fun vs H Q _ => ∃ (p : Addr) (q : Rat), vs = [.ref p] ∧ Fr H p q ∧ q.den < 2 ^ 1000 ∧ Q (.int (fl q)) H
def sumF (qs : List Rat) : Int := (qs.map fl).sum
def spChkV : Sp := fun vs H Q _ => ∃ (a : Addr) (qs : List Rat) (total : Int), vs = [.ref a, .int total] ∧ FrL H a qs ∧ qs.length ≤ 40 ∧ (∀ q ∈ qs, q.den < 2 ^ 1000) ∧ -100 ≤ total - sumF qs ∧ total - sumF qs ≤ 100 ∧ (qs = [] → total = 0) ∧ ∀ H', Same H H' → Q .non H'
abbrev bgQ : Str := (envOfC "by_greatest_rest" (defScope s_by_greatest_rest) 0 0 .none).qual ++ "<lambda>"
abbrev TT (Pb : Addr) : List (Addr × Str) := [(Pb, bgQ)]
def spOrd (Pb : Addr) : Sp := fun vs H Q _ => ∃ (a : Addr) (qs : List Rat) (D : Int), vs = [.ref a] ∧ FrL H a qs ∧ qs.length ≤ 40 ∧ Btm D (qs.map pr) ∧ LamX.Tabs (TT Pb) H ∧
  ∀ (l : Addr) (ns : List Nat) H', LamX.ExtN H H' → LamX.Tabs (TT Pb) H' → H' l = some (.lst (ns.map fun i => V.int (i : Nat))) → (∀ xs, H l ≠ some (.lst xs)) → ns.Perm (List.range qs.length) → ns.Pairwise (fun a b => RLe (fn qs b) (fn qs a)) → Q (.ref l) H'
def price (q : Rat) : Rat := 1 - ((q - (fl q : Rat)) + (q - (fl q : Rat)))
def spPrice : Sp := fun vs H Q _ => ∃ (p : Addr) (q : Rat), vs = [.ref p] ∧ Fr H p q ∧ q.den < 2 ^ 100 ∧ q.num.natAbs < 2 ^ 100 ∧ ∀ (u : Addr) H', Same H H' → Fr H' u (price q) → Q (.ref u) H'
theorem iteC {c d : Bool} {A B : Prop} (e : c = d) (h : if d = true then A else B) : if c = true then A else B := e ▸ h
theorem rests_ok {c : Int} (c0 : 0 < c) {qs : List Rat} (dv : ∀ q ∈ qs, (q.den : Int) ∣ c) : ((tops c (qs.map pr)).map (· % c)).length = qs.length ∧ ∀ a b, a < qs.length → b < qs.length → ((tops c (qs.map pr)).map (· % c)).getD b 0 ≤ ((tops c (qs.map pr)).map (· % c)).getD a 0 → RLe (fn qs b) (fn qs a) := by
  have tl : ((tops c (qs.map pr)).map (· % c)).length = qs.length := by
    unfold tops
    rw [List.length_map, List.length_map, List.length_map]
  have at_ : ∀ i, i < qs.length → ∃ m : Int, c = ((fn qs i).den : Int) * m ∧ ((tops c (qs.map pr)).map (· % c)).getD i 0 = rr (fn qs i) * m := fun i hi => by
    have e := fn_lt (List.getElem?_eq_getElem hi)
    have d0 := den_ge (fn qs i)
    have dd : ((fn qs i).den : Int) ∣ c := dv _ (by rw [e]; exact List.getElem_mem hi)
    refine ⟨c / ((fn qs i).den : Int), (Int.mul_ediv_cancel' dd).symm, ?_⟩
    rw [List.getD_eq_getElem?_getD, List.getElem?_map]
    unfold tops
    rw [List.getElem?_map, List.getElem?_map, List.getElem?_eq_getElem hi]
    show ((qs[i]).num * (c / ((qs[i]).den : Int))) % c = _
    rw [← e]
    have m0 : 0 < c / ((fn qs i).den : Int) := Int.ediv_pos_of_pos_of_dvd c0 (Int.le_of_lt d0) dd
    have ec : c = c / ((fn qs i).den : Int) * ((fn qs i).den : Int) := (Int.ediv_mul_cancel dd).symm
    generalize c / ((fn qs i).den : Int) = m at *
    rw [ec, Int.mul_comm _ m, Int.mul_emod_mul_of_pos _ _ m0, Int.mul_comm]
    rfl
  refine ⟨tl, fun a b ha hb h => ?_⟩
  obtain ⟨ma, ea, ra⟩ := at_ a ha
  obtain ⟨mb, eb, rb⟩ := at_ b hb
  rw [ra, rb] at h
  unfold RLe
  refine Int.le_of_mul_le_mul_right (a := c) ?_ c0
  have d1 := den_ge (fn qs a)
  have d2 := den_ge (fn qs b)
  have := Int.mul_le_mul_of_nonneg_right h (Int.le_of_lt (Int.mul_pos d1 d2))
  generalize ((fn qs a).den : Int) = da at *
  generalize ((fn qs b).den : Int) = db at *
  have x1 : rr (fn qs b) * da * c = rr (fn qs b) * mb * (da * db) := by
    rw [eb]
    grind
  have x2 : rr (fn qs a) * db * c = rr (fn qs a) * ma * (da * db) := by
    rw [ea]
    grind
  rw [x1, x2]
  exact this
theorem SqL.ints {K : PySem.W.Frag} {H : Hp} {a : Addr} {ns : List Int} (h : H a = some (.lst (ns.map V.int))) : SqL K H a (ns.map V.int) := SqL.of h
section
variable {P : Program} {w : World} {K : PySem.W.Frag} {mg : Str → Option Value} {base : Heap}
theorem sc_floor_of : FnScope ["value"] ["value"] (defScope s_floor_of) := ⟨rfl, rfl, rfl, by decide +kernel, rfl, by decide +kernel, by decide +kernel⟩
theorem ok_floor_of {f : Addr} {fd : FuncData} {k : Nat} (F : Fun K "floor_of" "floor_of" s_floor_of f fd) : FnOk P w K mg base CX0 (k + 1) f fd ["value"] spFloor := by
  refine F.ok sc_floor_of (fun vs H Q E h => ?_) (fun cdv A outer s H vs Q E hr h => ?_)
  · obtain ⟨p, q, rfl, _⟩ := h
    rfl
  · obtain ⟨p, q, rfl, hp, hd, k⟩ := h
    refine ⟨_, (pss_one (ps_ret (pe_op op_fdivW (pe_ix ix_tup (pv 0) pe_int (fun _ _ => rfl)) (pe_ix ix_tup (pv 0) pe_int (fun _ _ => rfl))))), ?_⟩
    have d0 := den_ge q
    refine ⟨_, rfl, p, _, 0, .int q.num, rfl, rfl, SqT.of hp, a0, _, rfl, p, _, 1, .int q.den, rfl, rfl, SqT.of hp, a1, _, _, rfl, rfl, wide_div (b := 1000) (by omega) (by omega) (by decide) (by decide), k⟩
theorem sc_check_values : FnScope ["values", "total", "more", "value"] ["values", "total"] (defScope s_check_values) := ⟨rfl, rfl, rfl, by decide +kernel, rfl, by decide +kernel, by decide +kernel⟩
theorem ok_check_values {f : Addr} {fd : FuncData} (F : Fun K "check_values" "check_values" s_check_values f fd) (z : Zs mg) (tM tF : Tok) (g_MOST_VALUES : mg "MOST_VALUES" = some (.int 40 tM)) (g_FARTHEST_TOTAL : mg "FARTHEST_TOTAL" = some (.int 100 tF)) (c_floor_of : Cal P w K mg base 1 "floor_of" ["value"] spFloor) (c_is_fractions : Cal P w K mg base 3 "is_fractions" ["thing"] spIsFrs) (c_is_whole : Cal P w K mg base 1 "is_whole" ["thing"] (spWhole K)) : FnOk P w K mg base CX0 4 f fd ["values", "total"] spChkV := by
  refine F.ok sc_check_values (fun vs H Q E h => ?_) (fun cdv A outer s H vs Q E hr h => ?_)
  · obtain ⟨a, qs, total, rfl, _⟩ := h
    rfl
  · obtain ⟨a, qs, total, rfl, hq, hl, hd, t0, t1, hn, k⟩ := h
    refine ⟨_, (pss_cons (ps_if (PW.pt (pw_or (pt_not (pt_val (pe_cal c_is_fractions hr (pa_cons (pv 0) pa_nil)))) (pw_or (pt_cmpR op_gt (pe_callB call_len_seq (by rfl) z.len PySem.boot_len (pa_cons (pv 0) pa_nil)) (pe_glob (v := .int 40) (by rfl) g_MOST_VALUES ⟨_, rfl⟩) (nomark _)) (pw_or1 (pt_not (pt_val (pe_cal c_is_whole hr (pa_cons (pv 1) pa_nil)))))))) (pss_one ps_never) pss_nil)
      (pss_cons (ps_set (i := 2) sc_check_values.nd rfl (.inl rfl) (pe_op op_sub (pv 1) (pe_callB (cr_sum rfl) (by rfl) z.sum (by decide +kernel) (pa_cons (pe_lc (own := [("value", 3)]) (g := gName 3) (tt := tYes) (te := (tCall spFloor [] E0 (tCons (tVar 3) tNil))) (by rfl) sc_check_values.nd (pi_list (pv 0)) (blkOk_by (own := [("value", 3)]) (N := ["values", "total", "more", "value"]) (sc := defScope s_check_values) (by decide +kernel)) (fun _ _ _ _ _ => by exact (pg_name (i := 3) sc_check_values.nd rfl (.inl rfl))) (fun _ _ _ _ _ => by exact pts_nil) (fun _ _ _ _ _ => by exact (pe_cal c_floor_of hr (pa_cons (pv 3) pa_nil)))) pa_nil))))
      (pss_one (ps_if (PW.pt (pw_or (pt_cmpR op_gt (pe_callB call_abs (by rfl) z.abs (by decide +kernel) (pa_cons (pv 2) pa_nil)) (pe_glob (v := .int 100) (by rfl) g_FARTHEST_TOTAL ⟨_, rfl⟩) (nomark _)) (pw_or1 (PW.pt (pw_and (pt_cmpR op_ne (pv 2) pe_int (nomark _)) (pw_and1 (pt_not (pt_truth (pv 0) (by intro _; rfl))))))))) (pss_one ps_never) pss_nil)))), ?_⟩
    refine ⟨_, rfl, a, qs, rfl, hq, by omega, fun H1 s1 => ⟨_, rfl, iteF ?_⟩⟩
    obtain ⟨vs, ha, lv, hv⟩ := (hq.same s1).len
    refine ⟨_, rfl, a, vs, rfl, .inl (SqL.of ha), _, _, rfl, rfl, _, rfl, iteC (d := false) (decide_eq_false (by omega)) (iteF ?_)⟩
    refine ⟨_, rfl, _, true, rfl, .int _, _, rfl, iteF ?_⟩
    refine ⟨_, rfl, ?_⟩
    refine ⟨_, rfl, a, rfl, ⟨_, SqL.of ha⟩, fun D hD => lc_list (K := K) (a := a) (xs := vs) (fun i G => Same H1 G ∧ G D = some (.lst (((qs.take i).map fl).map V.int))) ⟨same_new hD, upd_same⟩ (fun i G _ hP => SqL.of (hP.1 _ _ ha)) (fun i x G hx hP => ?_) (fun G hP => ?_)⟩
    · obtain ⟨sG, hacc⟩ := hP
      obtain ⟨p, q, rfl, hqx, hp⟩ := FrsAt.get hv hx
      have li := (List.getElem?_eq_some_iff.mp hqx).1
      refine ⟨rfl, _, rfl, p, q, rfl, sG _ _ hp, hd q (List.mem_of_getElem? hqx), _, hacc, ?_, fun b o e => ?_, ?_⟩
      · rw [List.length_map, List.length_map, List.length_take]
        exact small1000 (by omega)
      · rw [upd_ne (ne_of_none e hD)]
        exact sG _ _ e
      · rw [upd_same, List.take_succ, hqx, Option.toList_some, List.map_append, List.map_append]
        rfl
    obtain ⟨sG, hacc⟩ := hP
    rw [lv, List.take_length] at hacc
    skip
    refine ⟨D, qs.map fl, rfl, SqL.of hacc, _, _, rfl, rfl, ?_⟩
    have es : (qs.map fl).sum = sumF qs := rfl
    rw [es]
    refine ⟨_, rfl, _, rfl, _, _, rfl, rfl, _, rfl, iteC (d := false) (decide_eq_false (by split <;> omega)) (iteF ?_)⟩
    have ha2 := sG _ _ ha
    refine ⟨_, rfl, rfl, _, rfl, iteN (fun c => ?_) (fun c => iteF (k _ (s1.trans sG)))⟩
    refine ⟨_, rfl, !vs.isEmpty, .inl ⟨vs, SqL.of ha2, rfl⟩, ?_⟩
    cases vs with
    | cons v vt => exact iteF (k _ (s1.trans sG))
    | nil =>
      have e0 : qs = [] := List.length_eq_zero_iff.mp lv.symm
      have := hn e0
      rw [e0] at t0 t1 c
      exact absurd (by show V.int (total - 0) = V.int 0; rw [this]; rfl) c
theorem sc_by_greatest_rest : FnScope ["values", "tops", "bottom", "rests", "top"] ["values"] (defScope s_by_greatest_rest) := ⟨rfl, rfl, rfl, by decide +kernel, rfl, by decide +kernel, by decide +kernel⟩
theorem ok_by_greatest_rest {f c Pb : Addr} {fd : FuncData} (F : FunC K "by_greatest_rest" s_by_greatest_rest f fd c) (z : Zs mg) (TB : LamX.TabB base mg c Pb) (c_cleared : Cal P w K mg base 3 "cleared" ["pairs"] spCleared) : FnOk P w K mg base CX0 4 f fd ["values"] (spOrd Pb) := by
  refine F.ok sc_by_greatest_rest (fun vs H Q E h => ?_) (fun A outer s H vs Q E hr h => ?_)
  · obtain ⟨a, qs, D, rfl, _⟩ := h
    rfl
  · obtain ⟨a, qs, D, rfl, hq, hl, bt, hT, k⟩ := h
    refine ⟨_, (pss_cons (ps_asg (pe_cal c_cleared hr (pa_cons (pv 0) pa_nil)) (pg_tup (by rfl) (pgs_cons (pg_name (i := 1) sc_by_greatest_rest.nd rfl (.inl rfl)) (pgs_cons (pg_name (i := 2) sc_by_greatest_rest.nd rfl (.inr rfl)) pgs_nil))))
      (pss_cons (ps_set (i := 3) sc_by_greatest_rest.nd rfl (.inr rfl) (pe_lc (own := [("top", 4)]) (g := gName 4) (tt := tYes) (te := (tOp (rI (fun _ j => 0 < j) fun i j => V.int (i % j)) (tVar 4) (tVar 2))) (by rfl) sc_by_greatest_rest.nd (pi_list (pv 1)) (blkOk_by (own := [("top", 4)]) (N := ["values", "tops", "bottom", "rests", "top"]) (sc := defScope s_by_greatest_rest) (by decide +kernel)) (fun _ _ _ _ _ => by exact (pg_name (i := 4) sc_by_greatest_rest.nd rfl (.inl rfl))) (fun _ _ _ _ _ => by exact pts_nil) (fun _ _ _ _ _ => by exact (pe_op op_mod (pv 4) (pv 2)))))
      (pss_one (ps_ret (pe_sortNeg (T := TT Pb) (ir := 3) (k := 3) rfl hr (by rfl) z.sorted (by rfl) z.range (pa_cons (pe_callB call_len_seq (by rfl) z.len PySem.boot_len (pa_cons (pv 0) pa_nil)) pa_nil) TB rfl ⟨rfl, rfl, rfl, by decide +kernel, by decide +kernel, by decide +kernel, by show ∀ y : Str × NameKind, y ∈ _ → _ → (defScope s_by_greatest_rest).names.lookup y.1 = some .cell ∨ (defScope s_by_greatest_rest).names.lookup y.1 = some .free; decide +kernel⟩))))), ?_⟩
    obtain ⟨vs, ha, lv, hv⟩ := hq.len
    obtain ⟨c0, cd, cp⟩ := bt.com
    refine ⟨_, rfl, a, vs, qs.map pr, D, rfl, ha, hv, bt, by rw [List.length_map]; omega, fun Tp l H2 S2 hTp hl2 => ?_⟩
    have cl := bt.lt c0 cd
    generalize com ((qs.map pr).map (·.2)) = cm at *
    refine ⟨Tp, _, rfl, SqT.of hTp, rfl, _, _, rfl, _, _, rfl, rfl, ?_⟩
    have dvd : ∀ q ∈ qs, (q.den : Int) ∣ cm := fun q hq => cp _ (List.mem_map_of_mem hq)
    refine ⟨_, rfl, l, rfl, ⟨_, SqL.of hl2⟩, fun R hR => lc_list (K := K) (a := l) (xs := (tops cm (qs.map pr)).map V.int) (fun i G => Same H2 G ∧ G R = some (.lst ((((tops cm (qs.map pr)).take i).map (· % cm)).map V.int))) ⟨same_new hR, upd_same⟩ (fun i G _ hP => SqL.of (hP.1 _ _ hl2)) (fun i x G hx hP => ?_) (fun G hP => ?_)⟩
    · obtain ⟨sG, hacc⟩ := hP
      rw [List.getElem?_map] at hx
      obtain ⟨n, hn, rfl⟩ := Option.map_eq_some_iff.mp hx
      have li := (List.getElem?_eq_some_iff.mp hn).1
      have tl : (tops cm (qs.map pr)).length = qs.length := by
        unfold tops
        rw [List.length_map, List.length_map]
      refine ⟨rfl, _, rfl, _, rfl, _, _, rfl, rfl, c0, _, hacc, ?_, fun b o e => ?_, ?_⟩
      · rw [List.length_map, List.length_map, List.length_take]
        exact small1000 (by omega)
      · rw [upd_ne (ne_of_none e hR)]
        exact sG _ _ e
      · rw [upd_same, List.take_succ, hn, Option.toList_some, List.map_append, List.map_append]
        rfl
    obtain ⟨sG, hacc⟩ := hP
    rw [List.length_map, List.take_length] at hacc
    have S2G := S2.trans sG
    obtain ⟨e1, e2⟩ := rests_ok c0 dvd
    refine ⟨_, rfl, a, vs, rfl, .inl (SqL.of (S2G _ _ ha)), qs.length, R, _, by rw [lv], by omega, rfl, hacc, e1, LamX.Tabs.ext hT S2G, fun H3 l3 ns en tb nl pm so => ?_⟩
    refine k l3 ns _ ((LamX.ExtN.of S2G).trans (en.trans (LamX.ExtN.of (same_new nl)))) (tb.ext (same_new nl)) upd_same (fun xs z => by have := ((LamX.ExtN.of S2G).trans en) _ _ z (fun _ z => nomatch z); rw [nl] at this; cases this) pm ?_
    exact so.imp_of_mem fun h1 h2 h => e2 _ _ (List.mem_range.mp (pm.mem_iff.mp h1)) (List.mem_range.mp (pm.mem_iff.mp h2)) h
end
end E1

namespace E1
open PySem PySem.Spec PyProof.Rows L2
theorem plus_q (q r : Rat) : Rat.divInt (q.num * r.den + r.num * q.den) (q.den * r.den) = q + r := by
  apply div_is (Int.mul_ne_zero (den_ne q) (den_ne r))
  have a := q_eq q
  have b := q_eq r
  push_cast at *
  grind
theorem fr_int {H : Hp} {p : Addr} {n : Int} (h : H p = some (.tup [.int n, .int 1])) : Fr H p (n : Rat) := by
  unfold Fr
  rw [Rat.num_intCast, Rat.den_intCast]
  exact h
theorem rr_at (q : Rat) : q.num = fl q * (q.den : Int) + rr q ∧ 0 ≤ rr q ∧ rr q < (q.den : Int) := by
  have d0 := den_ge q
  refine ⟨?_, Int.emod_nonneg _ (by omega), Int.emod_lt_of_pos _ d0⟩
  have := Int.mul_ediv_add_emod q.num (q.den : Int)
  unfold fl rr
  rw [Int.mul_comm (q.num / (q.den : Int))]
  omega
theorem rest_eq (q : Rat) : (q - (fl q : Rat)) * ((q.den : Int) : Rat) = ((rr q : Int) : Rat) := by
  have a := q_eq q
  obtain ⟨e, -, -⟩ := rr_at q
  have e2 : ((q.num : Int) : Rat) = (fl q : Rat) * ((q.den : Int) : Rat) + (rr q : Rat) := by
    exact_mod_cast e
  grind
theorem price_eq (q : Rat) : (price q).num * (q.den : Int) = ((q.den : Int) - 2 * rr q) * ((price q).den : Int) := by
  have a := q_eq (price q)
  have b := rest_eq q
  have c : price q * ((q.den : Int) : Rat) = ((q.den : Int) : Rat) - 2 * ((rr q : Int) : Rat) := by
    unfold price
    grind
  have d : (((price q).num * (q.den : Int) : Int) : Rat) = ((((q.den : Int) - 2 * rr q) * ((price q).den : Int) : Int) : Rat) := by
    push_cast
    push_cast at a c
    rw [← a, ← c]
    grind
  exact_mod_cast d
def off (q : Rat) (w : Int) : Int := absI (q.num - w * (q.den : Int))
def Kept (q : Rat) (w pt pb : Int) : Prop := pt * (q.den : Int) ≤ (off q (w + 1) - off q w) * pb ∧ -(pt * (q.den : Int)) ≤ (off q (w - 1) - off q w) * pb
theorem off_three (q : Rat) (w : Int) : off q (w + 1) = absI (q.num - w * (q.den : Int) - (q.den : Int)) ∧ off q (w - 1) = absI (q.num - w * (q.den : Int) + (q.den : Int)) := by
  unfold off
  constructor
  · congr 1
    grind
  · congr 1
    grind
theorem kept_low {q : Rat} {w : Int} (h : w ≤ fl q) : Kept q w (-1) 1 := by
  obtain ⟨e, r0, r1⟩ := rr_at q
  obtain ⟨o1, o2⟩ := off_three q w
  have d0 := den_ge q
  have nn : 0 ≤ q.num - w * (q.den : Int) := by
    have := Int.mul_le_mul_of_nonneg_right h (Int.le_of_lt d0)
    omega
  unfold Kept
  rw [o1, o2]
  unfold off
  generalize q.num - w * (q.den : Int) = a at *
  unfold absI
  constructor <;> (repeat' split) <;> omega
theorem kept_high {q : Rat} {w : Int} (h : fl q + 1 ≤ w) : Kept q w 1 1 := by
  obtain ⟨e, r0, r1⟩ := rr_at q
  obtain ⟨o1, o2⟩ := off_three q w
  have d0 := den_ge q
  have nn : q.num - w * (q.den : Int) < 0 := by
    have := Int.mul_le_mul_of_nonneg_right h (Int.le_of_lt d0)
    rw [Int.add_mul, Int.one_mul] at this
    omega
  unfold Kept
  rw [o1, o2]
  unfold off
  generalize q.num - w * (q.den : Int) = a at *
  unfold absI
  constructor <;> (repeat' split) <;> omega
theorem kept_up {q v : Rat} (h : RLe v q) : Kept q (fl q + 1) (price v).num ((price v).den : Int) := by
  obtain ⟨e, r0, r1⟩ := rr_at q
  obtain ⟨_, s0, s1⟩ := rr_at v
  obtain ⟨o1, o2⟩ := off_three q (fl q + 1)
  have d0 := den_ge q
  have v0 := den_ge v
  have p0 := den_ge (price v)
  have pe := price_eq v
  unfold RLe at h
  have f0 : q.num - (fl q + 1) * (q.den : Int) = rr q - (q.den : Int) := by
    rw [Int.add_mul, Int.one_mul]
    omega
  unfold Kept
  rw [o1, o2]
  unfold off
  rw [f0]
  have a1 : absI (rr q - (q.den : Int) - (q.den : Int)) - absI (rr q - (q.den : Int)) = (q.den : Int) := by
    unfold absI
    (repeat' split) <;> omega
  have a2 : absI (rr q - (q.den : Int) + (q.den : Int)) - absI (rr q - (q.den : Int)) = 2 * rr q - (q.den : Int) := by
    unfold absI
    (repeat' split) <;> omega
  rw [a1, a2]
  generalize (price v).num = pt at *
  generalize ((price v).den : Int) = pb at *
  generalize (q.den : Int) = d at *
  generalize (v.den : Int) = dv at *
  generalize rr q = r at *
  generalize rr v = rv at *
  clear a1 a2 f0 o1 o2 e
  constructor
  · have k : pt ≤ pb := by
      refine Int.le_of_mul_le_mul_right (a := dv) ?_ v0
      rw [pe, Int.mul_comm pb]
      exact Int.mul_le_mul_of_nonneg_right (by omega) (by omega)
    rw [Int.mul_comm d]
    exact Int.mul_le_mul_of_nonneg_right k (by omega)
  · refine Int.le_of_mul_le_mul_right (a := dv) ?_ v0
    have e1 : -(pt * d) * dv = -((dv - 2 * rv) * pb * d) := by rw [← pe]; grind
    have k := Int.mul_nonneg (show 0 ≤ 2 * pb by omega) (show 0 ≤ r * dv - rv * d by omega)
    rw [e1]
    have e2 : (2 * r - d) * pb * dv = -((dv - 2 * rv) * pb * d) + 2 * pb * (r * dv - rv * d) := by grind
    rw [e2]
    omega
theorem kept_dn {q v : Rat} (h : RLe q v) : Kept q (fl q) (price v).num ((price v).den : Int) := by
  obtain ⟨e, r0, r1⟩ := rr_at q
  obtain ⟨_, s0, s1⟩ := rr_at v
  obtain ⟨o1, o2⟩ := off_three q (fl q)
  have d0 := den_ge q
  have v0 := den_ge v
  have p0 := den_ge (price v)
  have pe := price_eq v
  unfold RLe at h
  have f0 : q.num - fl q * (q.den : Int) = rr q := by omega
  unfold Kept
  rw [o1, o2]
  unfold off
  rw [f0]
  have a1 : absI (rr q - (q.den : Int)) - absI (rr q) = (q.den : Int) - 2 * rr q := by
    unfold absI
    (repeat' split) <;> omega
  have a2 : absI (rr q + (q.den : Int)) - absI (rr q) = (q.den : Int) := by
    unfold absI
    (repeat' split) <;> omega
  rw [a1, a2]
  generalize (price v).num = pt at *
  generalize ((price v).den : Int) = pb at *
  generalize (q.den : Int) = d at *
  generalize (v.den : Int) = dv at *
  generalize rr q = r at *
  generalize rr v = rv at *
  clear a1 a2 f0 o1 o2 e
  constructor
  · refine Int.le_of_mul_le_mul_right (a := dv) ?_ v0
    have e1 : pt * d * dv = (dv - 2 * rv) * pb * d := by rw [← pe]; grind
    have k := Int.mul_nonneg (show 0 ≤ 2 * pb by omega) (show 0 ≤ rv * d - r * dv by omega)
    rw [e1]
    have e2 : (d - 2 * r) * pb * dv = (dv - 2 * rv) * pb * d + 2 * pb * (rv * d - r * dv) := by grind
    rw [e2]
    omega
  · have k : -pt ≤ pb := by
      refine Int.le_of_mul_le_mul_right (a := dv) ?_ v0
      rw [Int.neg_mul, pe, ← Int.neg_mul, Int.mul_comm pb]
      exact Int.mul_le_mul_of_nonneg_right (by omega) (by omega)
    rw [← Int.neg_mul, Int.mul_comm d]
    exact Int.mul_le_mul_of_nonneg_right k (by omega)
theorem ord_in {qs : List Rat} {ns : List Nat} (so : ns.Pairwise (fun a b => RLe (fn qs b) (fn qs a))) {m : Nat} (hm : m < ns.length) {i : Nat} (hi : i ∈ ns) : (i ∈ ns.take (m + 1) → RLe (fn qs ns[m]) (fn qs i)) ∧ (i ∉ ns.take (m + 1) → RLe (fn qs i) (fn qs ns[m])) := by
  rw [List.pairwise_iff_getElem] at so
  constructor
  · intro h
    obtain ⟨j, hj, rfl⟩ := List.getElem_of_mem h
    rw [List.length_take] at hj
    rw [List.getElem_take]
    by_cases c : j = m
    · subst c
      exact Int.le_refl _
    · exact so j m (by omega) hm (by omega)
  · intro h
    obtain ⟨j, hj, rfl⟩ := List.getElem_of_mem hi
    refine so m j hm hj ?_
    by_cases c : m < j
    · exact c
    · exfalso
      apply h
      rw [List.mem_take_iff_getElem]
      exact ⟨j, by omega, rfl⟩
theorem sum_set : ∀ (l : List Int) (i : Nat) (x : Int), l[i]? = some x → (l.set i (x + 1)).sum = l.sum + 1
  | [], _, _, h => by cases h
  | y :: l, 0, x, h => by
    cases h
    rw [List.set_cons_zero, List.sum_cons, List.sum_cons]
    omega
  | y :: l, i + 1, x, h => by
    have := sum_set l i x h
    rw [List.set_cons_succ, List.sum_cons, List.sum_cons, this]
    omega
theorem sum_set2 (d : Int) : ∀ (l : List Int) (i : Nat) (x : Int), l[i]? = some x → (l.set i (x + d)).sum = l.sum + d
  | [], _, _, h => by cases h
  | y :: l, 0, x, h => by
    cases h
    rw [List.set_cons_zero, List.sum_cons, List.sum_cons]
    omega
  | y :: l, i + 1, x, h => by
    have := sum_set2 d l i x h
    rw [List.set_cons_succ, List.sum_cons, List.sum_cons, this]
    omega
theorem cut_first (xs : List V) (j : Nat) : cutV xs none (some (j : Int)) = xs.take j := by
  unfold cutV
  have e1 : HT.sIx xs.length 0 none = 0 := rfl
  have e2 : HT.sIx xs.length xs.length (some (j : Int)) = min j xs.length := HT.sIx_nat _ _ j
  rw [e1, e2, List.drop_zero, Nat.sub_zero]
  by_cases c : j ≤ xs.length
  · rw [Nat.min_eq_left c]
  · rw [Nat.min_eq_right (by omega), List.take_length, List.take_of_length_le (by omega)]

end E1

namespace E1
open PySem PySem.Spec PyProof.Rows L2

theorem sc_rest (q : Rat) {B : Nat} (h : q.den ≤ B) : Sc (q.den : Int) B (q - (fl q : Rat)) := by
  obtain ⟨_, r0, r1⟩ := rr_at q
  exact ⟨rr q, rest_eq q, by omega⟩
def spFit (K : PySem.W.Frag) (Pb : Addr) : Sp := fun vs H Q _ => ∃ (a : Addr) (qs : List Rat) (D : Int) (total : Int), vs = [.ref a, .int total] ∧ FrL H a qs ∧ qs.length ≤ 40 ∧ Btm D (qs.map pr) ∧ (∀ q ∈ qs, q.den < 2 ^ 100 ∧ q.num.natAbs < 2 ^ 100) ∧ -100 ≤ total - sumF qs ∧ total - sumF qs ≤ 100 ∧ (qs = [] → total = 0) ∧ LamX.Tabs (TT Pb) H ∧
  ∀ (Tp l u : Addr) (ws : List Int) (π : Rat) H', LamX.ExtN H H' → LamX.Tabs (TT Pb) H' → H' Tp = some (.tup [.ref l, .ref u]) → H' l = some (.lst (ws.map V.int)) → H l = none → SqT K H' u [.int π.num, .int (π.den : Int)] → ws.length = qs.length → ws.sum = total → (π.num.natAbs < 2 ^ 100 ∧ π.den < 2 ^ 100) → (∀ i, i < qs.length → Kept (fn qs i) (ws.getD i 0) π.num (π.den : Int) ∧ fl (fn qs i) - 200 ≤ ws.getD i 0 ∧ ws.getD i 0 ≤ fl (fn qs i) + 200) → Q (.ref Tp) H'
/-- the words where no word is raised: all that is missing is put on the first -/
def lowW (m : Int) : List Int → List Int
  | [] => []
  | f :: t => (f + m) :: t
theorem lowW_len (m : Int) (l : List Int) : (lowW m l).length = l.length := by cases l <;> rfl
theorem lowW_take (m : Int) (l : List Int) (i : Nat) (x : Int) (h : l[i]? = some x) : lowW m (l.take (i + 1)) = lowW m (l.take i) ++ [if i = 0 then x + m else x] := by
  cases l with
  | nil => cases h
  | cons f t =>
    cases i with
    | zero =>
      cases h
      rw [if_pos rfl]
      rfl
    | succ i =>
      have h' : t[i]? = some x := h
      rw [List.take_succ_cons, List.take_succ_cons, if_neg (by omega), List.take_succ, h', Option.toList_some]
      rfl
theorem lowW_at {m : Int} (hm : m ≤ 0) (l : List Int) (i : Nat) (h : i < l.length) : (lowW m l).getD i 0 ≤ l.getD i 0 := by
  cases l with
  | nil => exact absurd h (Nat.not_lt_zero _)
  | cons f t =>
    cases i with
    | zero =>
      show f + m ≤ f
      omega
    | succ i => exact Int.le_refl _
theorem lowW_ge {m : Int} (hm : m ≤ 0) (l : List Int) (i : Nat) (h : i < l.length) : l.getD i 0 + m ≤ (lowW m l).getD i 0 := by
  cases l with
  | nil => exact absurd h (Nat.not_lt_zero _)
  | cons f t =>
    cases i with
    | zero => exact Int.le_refl _
    | succ i =>
      show t.getD i 0 + m ≤ t.getD i 0
      omega
theorem one_small : (1 : Rat).num.natAbs < 2 ^ 100 ∧ (1 : Rat).den < 2 ^ 100 := ⟨by decide +kernel, by decide +kernel⟩
theorem neg_small : (-1 : Rat).num.natAbs < 2 ^ 100 ∧ (-1 : Rat).den < 2 ^ 100 := ⟨by decide +kernel, by decide +kernel⟩
theorem price_small {q : Rat} (h : q.den < 2 ^ 100) : (price q).num.natAbs < 2 ^ 100 ∧ (price q).den < 2 ^ 100 := by
  obtain ⟨_, r0, r1⟩ := rr_at q
  have e := price_eq q
  have s : Sc (q.den : Int) q.den (price q) := by
    refine ⟨(q.den : Int) - 2 * rr q, ?_, by omega⟩
    have b := rest_eq q
    unfold price
    push_cast at b ⊢
    grind
  have d1 := Nat.le_of_dvd (by have := den_ge q; omega) (Int.natAbs_dvd_natAbs.mpr s.den)
  have n1 := s.num (den_ne q)
  omega
theorem lowW_sum {m : Int} (l : List Int) (h : l ≠ []) : (lowW m l).sum = l.sum + m := by
  cases l with
  | nil => exact absurd rfl h
  | cons f t =>
    show ((f + m) :: t).sum = _
    rw [List.sum_cons, List.sum_cons]
    omega
theorem fl_at {qs : List Rat} {i : Nat} (h : i < qs.length) : (qs.map fl).getD i 0 = fl (fn qs i) := by
  have e := fn_lt (List.getElem?_eq_getElem h)
  rw [List.getD_eq_getElem?_getD, List.getElem?_map, List.getElem?_eq_getElem h, e]
  rfl
theorem tabs_by {T : List (Addr × Str)} {H H' : Hp} {w : Addr} {xs : List V} (t : LamX.Tabs T H) (s : SameBut w H H') (e : H w = some (.lst xs)) : LamX.Tabs T H' := fun p hp => by
  obtain ⟨ps, a1, a2, a3⟩ := t p hp
  refine ⟨ps, s _ _ (ne_of a1 e (fun z => nomatch z)) a1, a2, fun q cv hc => ?_⟩
  obtain ⟨c, e1, e2⟩ := a3 q cv hc
  exact ⟨c, e1, s _ _ (ne_of e2 e (fun z => by unfold LamX.CodeO at z; cases z)) e2⟩
theorem frL_ext {H H' : Hp} {a : Addr} {qs : List Rat} (h : FrL H a qs) (e : LamX.ExtN H H') : FrL H' a qs := by
  obtain ⟨vs, h1, h2⟩ := h
  refine ⟨vs, e _ _ h1 (fun _ z => nomatch z), ?_⟩
  replace h2 : PrsAt H vs (qs.map pr) := h2
  show PrsAt H' vs (qs.map pr)
  generalize qs.map pr = ps at *
  clear h1
  induction h2 with
  | nil => exact .nil
  | cons x _ ih => exact .cons (e _ _ x (fun _ z => nomatch z)) ih
section
variable {P : Program} {w : World} {K : PySem.W.Frag} {mg : Str → Option Value} {base : Heap}
theorem sc_price_of_raising : FnScope ["value", "rest"] ["value"] (defScope s_price_of_raising) := ⟨rfl, rfl, rfl, by decide +kernel, rfl, by decide +kernel, by decide +kernel⟩
theorem ok_price_of_raising {f : Addr} {fd : FuncData} {aO : Addr} (g_ONE : mg "ONE" = some (.ref aO)) (tO : ∀ H, SqT K H aO [.int 1, .int 1]) (F : Fun K "price_of_raising" "price_of_raising" s_price_of_raising f fd) (c_floor_of : Cal P w K mg base 1 "floor_of" ["value"] spFloor) (c_minus : Cal P w K mg base 3 "minus" ["one", "other"] (spTwo K (fun t u v x => True) (fun t u v x => t * x - v * u) (fun t u v x => u * x))) (c_plus : Cal P w K mg base 3 "plus" ["one", "other"] (spTwo K (fun t u v x => True) (fun t u v x => t * x + v * u) (fun t u v x => u * x))) : FnOk P w K mg base CX0 4 f fd ["value"] spPrice := by
  refine F.ok sc_price_of_raising (fun vs H Q E h => ?_) (fun cdv A outer s H vs Q E hr h => ?_)
  · obtain ⟨p, q, rfl, _⟩ := h
    rfl
  · obtain ⟨p, q, rfl, hp, hd, hn, k⟩ := h
    refine ⟨_, (pss_cons (ps_set (i := 1) sc_price_of_raising.nd rfl (.inl rfl) (pe_cal c_minus hr (pa_cons (pv 0) (pa_cons (pe_tup (pa_cons (pe_cal c_floor_of hr (pa_cons (pv 0) pa_nil)) (pa_cons pe_int pa_nil))) pa_nil))))
      (pss_one (ps_ret (pe_cal c_minus hr (pa_cons (pe_glob (v := .ref aO) (by rfl) g_ONE rfl) (pa_cons (pe_cal c_plus hr (pa_cons (pv 1) (pa_cons (pv 1) pa_nil))) pa_nil)))))), ?_⟩
    have d0 := den_ge q
    obtain ⟨e, r0, r1⟩ := rr_at q
    have fb : (fl q).natAbs < 2 ^ 100 := Nat.lt_of_le_of_lt (Int.natAbs_ediv_le_natAbs _ _) hn
    have dn : (q.den : Int) ≠ 0 := den_ne q
    have s1 := sc_rest q (Nat.le_refl _)
    have s2 := s1.add s1
    have hd9 : ((q.den : Int)).natAbs < 2 ^ 100 := by omega
    refine ⟨_, rfl, _, rfl, p, q, rfl, hp, up hd (by decide), (by show 2 ≤ sizeLine; decide), fun t ht => ?_⟩
    have st := same_new (o := .tup [.int (fl q), .int 1]) ht
    have ft : Fr (upd H t (.tup [.int (fl q), .int 1])) t (fl q : Rat) := fr_int upd_same
    generalize upd H t (.tup [.int (fl q), .int 1]) = H1 at st ft ⊢
    refine ⟨p, t, q.num, q.den, fl q, 1, rfl, SqT.of (st _ _ hp), (by unfold Fr at ft; rw [Rat.num_intCast, Rat.den_intCast] at ft; exact SqT.of ft), trivial, d0, by decide, up hn (by decide), up hd9 (by decide), up fb (by decide), Nat.lt_of_lt_of_le (show (1 : Int).natAbs < 2 ^ 1 by decide) (Nat.pow_le_pow_right (by decide) (by decide)), fun r hr_ => ?_⟩
    have m1 := minus_q q (fl q : Rat)
    rw [Rat.num_intCast, Rat.den_intCast] at m1
    have sr := same_new (o := .tup [.int (lowT (q.num * 1 - fl q * (q.den : Int)) ((q.den : Int) * 1)), .int (lowB (q.num * 1 - fl q * (q.den : Int)) ((q.den : Int) * 1))]) hr_
    have fr_ : Fr (upd H1 r (.tup [.int (lowT (q.num * 1 - fl q * (q.den : Int)) ((q.den : Int) * 1)), .int (lowB (q.num * 1 - fl q * (q.den : Int)) ((q.den : Int) * 1))])) r (q - (fl q : Rat)) := Fr.low (by omega) m1 upd_same
    generalize upd H1 r _ = H2 at sr fr_ ⊢
    have S2 := st.trans sr
    have hpr : price q = 1 - ((q - (fl q : Rat)) + (q - (fl q : Rat))) := rfl
    generalize q - (fl q : Rat) = ρ at *
    have rd : ((ρ.den : Int)).natAbs < 2 ^ 100 := Nat.lt_of_le_of_lt (Nat.le_of_dvd (by omega) (Int.natAbs_dvd_natAbs.mpr s1.den)) hd9
    have rn : ρ.num.natAbs < 2 ^ 100 := Nat.lt_of_le_of_lt (s1.num dn) hd
    have r2d : (((ρ + ρ).den : Int)).natAbs < 2 ^ 100 := Nat.lt_of_le_of_lt (Nat.le_of_dvd (by omega) (Int.natAbs_dvd_natAbs.mpr s2.den)) hd9
    have r2n : (ρ + ρ).num.natAbs < 2 ^ 101 := Nat.lt_of_le_of_lt (s2.num dn) (by rw [Nat.pow_succ]; omega)
    refine ⟨_, rfl, _, rfl, r, r, ρ.num, ρ.den, ρ.num, ρ.den, rfl, SqT.of fr_, SqT.of fr_, trivial, den_ge ρ, den_ge ρ, up rn (by decide), up rd (by decide), up rn (by decide), up rd (by decide), fun r2 hr2 => ?_⟩
    have sr2 := same_new (o := .tup [.int (lowT (ρ.num * (ρ.den : Int) + ρ.num * (ρ.den : Int)) ((ρ.den : Int) * (ρ.den : Int))), .int (lowB (ρ.num * (ρ.den : Int) + ρ.num * (ρ.den : Int)) ((ρ.den : Int) * (ρ.den : Int)))]) hr2
    have fr2 : Fr (upd H2 r2 (.tup [.int (lowT (ρ.num * (ρ.den : Int) + ρ.num * (ρ.den : Int)) ((ρ.den : Int) * (ρ.den : Int))), .int (lowB (ρ.num * (ρ.den : Int) + ρ.num * (ρ.den : Int)) ((ρ.den : Int) * (ρ.den : Int)))])) r2 (ρ + ρ) := Fr.low (Int.mul_ne_zero (den_ne ρ) (den_ne ρ)) (plus_q ρ ρ) upd_same
    generalize upd H2 r2 _ = H3 at sr2 fr2 ⊢
    have S3 := S2.trans sr2
    generalize ρ + ρ = σ2 at *
    have b1 : (1 : Int).natAbs < 2 ^ 1900 := Nat.lt_of_lt_of_le (show (1 : Int).natAbs < 2 ^ 1 by decide) (Nat.pow_le_pow_right (by decide) (by decide))
    refine ⟨aO, r2, 1, 1, σ2.num, σ2.den, rfl, tO _, SqT.of fr2, trivial, by decide, den_ge σ2, b1, b1, up r2n (by decide), up r2d (by decide), fun u hu => ?_⟩
    have m2 := minus_q 1 σ2
    exact k u _ (S3.trans (same_new hu)) (by rw [hpr]; exact Fr.low (Int.mul_ne_zero (by decide) (den_ne σ2)) m2 upd_same)
theorem sc_fitted : FnScope ["values", "total", "words", "more", "at", "order", "value", "word"] ["values", "total"] (defScope s_fitted) := ⟨rfl, rfl, rfl, by decide +kernel, rfl, by decide +kernel, by decide +kernel⟩
theorem ok_fitted {f : Addr} {fd : FuncData} {aO Pb : Addr} (g_ONE : mg "ONE" = some (.ref aO)) (tO : ∀ H, SqT K H aO [.int 1, .int 1]) (F : Fun K "fitted" "fitted" s_fitted f fd) (z : Zs mg) (c_check_values : Cal P w K mg base 4 "check_values" ["values", "total"] spChkV) (c_floor_of : Cal P w K mg base 1 "floor_of" ["value"] spFloor) (c_by_greatest_rest : Cal P w K mg base 4 "by_greatest_rest" ["values"] (spOrd Pb)) (c_price_of_raising : Cal P w K mg base 4 "price_of_raising" ["value"] spPrice) : FnOk P w K mg base CX0 5 f fd ["values", "total"] (spFit K Pb) := by
  refine F.ok sc_fitted (fun vs H Q E h => ?_) (fun cdv A outer s H vs Q E hr h => ?_)
  · obtain ⟨a, qs, D, total, rfl, _⟩ := h
    rfl
  · obtain ⟨a, qs, Dm, total, rfl, hq, hl, bt, sz, t0, t1, hn, hT, k⟩ := h
    refine ⟨_, (pss_cons (ps_expr (pe_cal c_check_values hr (pa_cons (pv 0) (pa_cons (pv 1) pa_nil))))
      (pss_cons (ps_setLc (i := 2) (own := [("value", 6)]) (g := gName 6) (tt := tYes) (te := (tCall spFloor [] E0 (tCons (tVar 6) tNil))) (by rfl) sc_fitted.nd rfl rfl (sw_true rfl rfl rfl (by decide +kernel)) (pi_list (pv 0)) (blkOk_by (own := [("value", 6)]) (N := ["values", "total", "words", "more", "at", "order", "value", "word"]) (sc := defScope s_fitted) (by decide +kernel)) (fun _ _ _ _ _ => by exact (pg_name (i := 6) sc_fitted.nd rfl (.inl rfl))) (fun _ _ _ _ _ => by exact pts_nil) (fun _ _ _ _ _ => by exact (pe_cal c_floor_of hr (pa_cons (pv 6) pa_nil))))
      (pss_cons (ps_set (i := 3) sc_fitted.nd rfl (.inr rfl) (pe_op op_sub (pv 1) (pe_callB (cr_sum rfl) (by rfl) z.sum (by decide +kernel) (pa_cons (pv 2) pa_nil))))
      (pss_cons (ps_if (pt_cmpR op_le (pv 3) pe_int (nomark _)) (pss_one (ps_ret (pe_tup (pa_cons (pe_lc (own := [("at", 4), ("word", 7)]) (g := gTup K 2 (gCons (gName 4) (gCons (gName 7) gNil))) (tt := tYes) (te := (tIf (tTest (tOp rEq (tVar 4) (tC (.int 0)))) (tOp (rI0 fun i j => V.int (i + j)) (tVar 7) (tVar 3)) (tVar 7))) (by rfl) sc_fitted.nd (pi_enum (by rfl) z.enumerate (pa_cons (pv 2) pa_nil)) (blkOk_by (own := [("at", 4), ("word", 7)]) (N := ["values", "total", "words", "more", "at", "order", "value", "word"]) (sc := defScope s_fitted) (by decide +kernel)) (fun _ _ _ _ _ => by exact (pg_tup (by rfl) (pgs_cons (pg_name (i := 4) sc_fitted.nd rfl (.inl rfl)) (pgs_cons (pg_name (i := 7) sc_fitted.nd rfl (.inl rfl)) pgs_nil)))) (fun _ _ _ _ _ => by exact pts_nil) (fun _ _ _ _ _ => by exact (pe_ifExp (pt_cmpR op_eq (pv 4) pe_int (nomark _)) (pe_op op_add (pv 7) (pv 3)) (pv 7)))) (pa_cons (pe_tup (pa_cons (pe_un un_neg pe_int) (pa_cons pe_int pa_nil))) pa_nil))))) pss_nil)
      (pss_cons (ps_set (i := 5) sc_fitted.nd rfl (.inl rfl) (pe_cal c_by_greatest_rest hr (pa_cons (pv 0) pa_nil)))
      (pss_cons (ps_for PassesOwn.never rfl (pi_list (pe_slice sl_list (pv 5) po_none (po_some (pv 3)))) (pg_name (i := 4) sc_fitted.nd rfl (.inl rfl)) (pss_one (ps_augS (pv 2) (pv 4) get_list pe_int ip_add set_list)))
      (pss_cons (ps_if (pt_cmpR op_gt (pv 3) (pe_callB call_len_seq (by rfl) z.len PySem.boot_len (pa_cons (pv 2) pa_nil)) (nomark _)) (pss_cons (ps_augS (pv 2) pe_int get_list (pe_op op_sub (pv 3) (pe_callB call_len_seq (by rfl) z.len PySem.boot_len (pa_cons (pv 2) pa_nil))) ip_add set_list)
      (pss_one (ps_ret (pe_tup (pa_cons (pv 2) (pa_cons (pe_glob (v := .ref aO) (by rfl) g_ONE rfl) pa_nil)))))) pss_nil)
      (pss_one (ps_ret (pe_tup (pa_cons (pv 2) (pa_cons (pe_cal c_price_of_raising hr (pa_cons (pe_ix ix_list (pv 0) (pe_ix ix_list (pv 5) (pe_op op_sub (pv 3) pe_int) (fun _ _ => rfl)) (fun _ _ => rfl)) pa_nil)) pa_nil)))))))))))), ?_⟩
    have hd : ∀ q ∈ qs, q.den < 2 ^ 1000 := fun q hq => up (sz q hq).1 (by decide)
    refine ⟨_, rfl, _, rfl, a, qs, total, rfl, hq, hl, hd, t0, t1, hn, fun H1 s1 => ?_⟩
    obtain ⟨vs, ha, lv, hv⟩ := (hq.same s1).len
    refine ⟨_, rfl, a, rfl, ⟨_, SqL.of ha⟩, fun D hD => lc_list (K := K) (a := a) (xs := vs) (fun i G => Same H1 G ∧ G D = some (.lst (((qs.take i).map fl).map V.int))) ⟨same_new hD, upd_same⟩ (fun i G _ hP => SqL.of (hP.1 _ _ ha)) (fun i x G hx hP => ?_) (fun G hP => ?_)⟩
    · obtain ⟨sG, hacc⟩ := hP
      obtain ⟨p, q, rfl, hqx, hp⟩ := FrsAt.get hv hx
      have li := (List.getElem?_eq_some_iff.mp hqx).1
      refine ⟨rfl, _, rfl, p, q, rfl, sG _ _ hp, hd q (List.mem_of_getElem? hqx), _, hacc, ?_, fun b o e => ?_, ?_⟩
      · rw [List.length_map, List.length_map, List.length_take]
        exact small1000 (by omega)
      · rw [upd_ne (ne_of_none e hD)]
        exact sG _ _ e
      · rw [upd_same, List.take_succ, hqx, Option.toList_some, List.map_append, List.map_append]
        rfl
    obtain ⟨sG, hacc⟩ := hP
    rw [lv, List.take_length] at hacc
    skip
    refine ⟨_, rfl, _, rfl, D, qs.map fl, rfl, SqL.of hacc, _, _, rfl, rfl, ?_⟩
    have es : (qs.map fl).sum = sumF qs := rfl
    rw [es]
    have tm : total = sumF qs + (total - sumF qs) := by omega
    have SG := s1.trans sG
    have hD0 : H D = none := s1.free hD
    have ln : (qs.map fl).length = qs.length := List.length_map _
    refine ⟨_, rfl, _, _, rfl, rfl, _, rfl, ite2 (fun c => ?_) (fun c => ?_)⟩
    · have c' : total - sumF qs ≤ 0 := toB c
      refine ⟨_, rfl, D, _, rfl, SqL.of hacc, fun L hL => lc_it (walk_enum (K := K) (a := D) (xs := (qs.map fl).map V.int)) (fun i X => Same G X ∧ X L = some (.lst ((lowW (total - sumF qs) ((qs.map fl).take i)).map V.int))) ⟨same_new hL, upd_same⟩ (fun i X _ hP => SqL.of (hP.1 _ _ hacc)) (fun i v X X' hi hP hY => ?_) (fun X hP => ?_)⟩
      · obtain ⟨sX, hacX⟩ := hP
        obtain ⟨Tp, u, w1, rfl, nT, rfl, e1, e2⟩ := hY
        cases e1
        replace e2 : ((qs.map fl).map V.int)[i]? = some w1 := e2
        rw [List.getElem?_map] at e2
        obtain ⟨x, ex, rfl⟩ := Option.map_eq_some_iff.mp e2
        have sN := same_new (o := .tup [.int (i : Nat), .int x]) nT
        have li := (List.getElem?_eq_some_iff.mp ex).1
        have tk := lowW_take (total - sumF qs) _ i x ex
        refine ⟨Tp, [.int (i : Nat), .int x], rfl, SqT.of upd_same, rfl, _, _, rfl, _, _, rfl, rfl, rfl, ?_⟩
        have szz : ((lowW (total - sumF qs) ((qs.map fl).take i)).map V.int).length < sizeLine := by
          rw [List.length_map, lowW_len, List.length_take]
          exact small1000 (by omega)
        have keepX : ∀ (y : V) b o, G b = some o → (upd (upd X Tp (.tup [.int (i : Nat), .int x])) L (.lst ((lowW (total - sumF qs) ((qs.map fl).take i)).map V.int ++ [y]))) b = some o := fun y b o e => by
          rw [upd_ne (ne_of_none e hL)]
          exact sN _ _ (sX _ _ e)
        refine ⟨_, rfl, rfl, _, rfl, ite2 (fun c1 => ?_) (fun c1 => ?_)⟩
        · have i0 : i = 0 := by
            have := V.int.inj (of_decide_eq_true c1)
            omega
          refine ⟨_, rfl, _, rfl, _, _, rfl, rfl, _, sN _ _ hacX, szz, keepX _, ?_⟩
          rw [upd_same, tk, if_pos i0, List.map_append]
          rfl
        · have i0 : i ≠ 0 := fun z => c1 (decide_eq_true (by rw [z]; rfl))
          refine ⟨_, rfl, _, sN _ _ hacX, szz, keepX _, ?_⟩
          rw [upd_same, tk, if_neg i0, List.map_append]
          rfl
      · obtain ⟨sX, hacX⟩ := hP
        rw [List.length_map, List.take_length] at hacX
        have p1 : ((-1 : Rat)).num = -1 := by decide +kernel
        have p2 : ((-1 : Rat)).den = 1 := by decide +kernel
        refine ⟨_, rfl, (by show 2 ≤ sizeLine; decide), fun u hu => ⟨(by show 2 ≤ sizeLine; decide), fun Tp hTp => ?_⟩⟩
        have su := same_new (o := .tup [.int (-1), .int 1]) hu
        have gu : (upd X u (.tup [.int (-1), .int 1])) u = some (.tup [.int (-1), .int 1]) := upd_same
        have sT := same_new (o := .tup [.ref L, .ref u]) hTp
        have SS := SG.trans (sX.trans (su.trans sT))
        refine k Tp L u (lowW (total - sumF qs) (qs.map fl)) (-1) _ (LamX.ExtN.of SS) (hT.ext SS) upd_same (sT _ _ (su _ _ hacX)) (SG.free hL) (by rw [p1, p2]; exact SqT.of (sT _ _ gu)) (by rw [lowW_len, ln]) ?_ neg_small (fun i hi => ?_)
        · cases qs with
          | nil =>
            have := hn rfl
            rw [this]
            rfl
          | cons q0 qt =>
            have e0 := lowW_sum (m := total - sumF (q0 :: qt)) ((q0 :: qt).map fl) (by rw [List.map_cons]; exact List.cons_ne_nil _ _)
            rw [es] at e0
            omega
        · rw [p1, p2, ← fl_at hi]
          have u1 := lowW_at c' (qs.map fl) i (by rw [ln]; exact hi)
          have u2 := lowW_ge c' (qs.map fl) i (by rw [ln]; exact hi)
          exact ⟨kept_low (by rw [← fl_at hi]; exact u1), by omega, by omega⟩
    · have c' : 0 < total - sumF qs := by have := toNB c; omega
      refine ⟨_, rfl, a, qs, Dm, rfl, hq.same SG, hl, bt, hT.ext SG, fun lo ns H2 en tb hlo nF pm so => ?_⟩
      have w2 := en _ _ hacc (fun _ z => nomatch z)
      have nl := pm.length_eq
      rw [List.length_range] at nl
      obtain ⟨m, em⟩ : ∃ m : Nat, total - sumF qs = ((m + 1 : Nat) : Int) := ⟨(total - sumF qs - 1).toNat, by omega⟩
      refine ⟨_, rfl, _, rfl, _, rfl, lo, _, rfl, SqL.of hlo, fun S hS => ?_⟩
      have ec : cutV (ns.map fun i => V.int (i : Nat)) none (some (total - sumF qs)) = (ns.take (m + 1)).map fun i => V.int (i : Nat) := by
        rw [em, cut_first, ← List.map_take]
      rw [ec]
      have sS := same_new (o := .lst ((ns.take (m + 1)).map fun i => V.int (i : Nat))) hS
      have gS : (upd H2 S (.lst ((ns.take (m + 1)).map fun i => V.int (i : Nat)))) S = some (.lst ((ns.take (m + 1)).map fun i => V.int (i : Nat))) := upd_same
      have nSD : S ≠ D := fun z => by
        rw [z, w2] at hS
        cases hS
      have nd : ns.Nodup := pm.nodup_iff.mpr List.nodup_range
      have inr : ∀ i, i ∈ ns ↔ i < qs.length := fun i => by rw [pm.mem_iff, List.mem_range]
      have en3 : LamX.ExtN H (upd H2 S (.lst ((ns.take (m + 1)).map fun i => V.int (i : Nat)))) := (LamX.ExtN.of SG).trans (en.trans (LamX.ExtN.of sS))
      have tb3 := tb.ext sS
      have w3 := sS _ _ w2
      have lo3 := sS _ _ hlo
      generalize upd H2 S (.lst ((ns.take (m + 1)).map fun i => V.int (i : Nat))) = H3 at sS gS en3 tb3 w3 lo3 ⊢
      refine ⟨S, rfl, ⟨_, SqL.of gS⟩, for_list (K := K) (a := S) (xs := (ns.take (m + 1)).map fun i => V.int (i : Nat)) (fun j σ X => SameBut D H3 X ∧ (∃ y4 : Option V, σ = [some (.ref a), some (.int total), some (.ref D), some (.int (total - sumF qs)), y4, some (.ref lo), none, none]) ∧ ∃ ws : List Int, X D = some (.lst (ws.map V.int)) ∧ ws.length = qs.length ∧ ws.sum = sumF qs + j ∧ ∀ i, i < qs.length → ws.getD i 0 = fl (fn qs i) + (if i ∈ ns.take j then 1 else 0)) ⟨SameBut.refl _ _, ⟨none, rfl⟩, qs.map fl, w3, ln, by rw [es]; omega, fun i hi => by rw [fl_at hi, List.take_zero, if_neg List.not_mem_nil]; omega⟩ (fun j σ X _ hP => SqL.of (hP.1 _ _ nSD gS)) (fun j x σ X hx hP => ?_) (fun σ X hP => ?_)⟩
      · obtain ⟨sb, ⟨y4, rfl⟩, ws, hW, lw, sw, aw⟩ := hP
        rw [List.getElem?_map] at hx
        obtain ⟨n1, hn1, rfl⟩ := Option.map_eq_some_iff.mp hx
        have lj := (List.getElem?_eq_some_iff.mp hn1).1
        rw [List.length_take] at lj
        rw [List.getElem?_take] at hn1
        have hn2 : ns[j]? = some n1 := by
          rw [if_pos (by omega)] at hn1
          exact hn1
        have m1 : n1 < qs.length := (inr n1).mp (List.mem_of_getElem? hn2)
        have nin : n1 ∉ ns.take j := fun z => by
          obtain ⟨q1, hq1, e1⟩ := List.getElem_of_mem z
          rw [List.length_take] at hq1
          rw [List.getElem_take] at e1
          obtain ⟨lt2, e2⟩ := List.getElem?_eq_some_iff.mp hn2
          have := (List.getElem_inj nd).mp (e1.trans e2.symm)
          omega
        have tk : ns.take (j + 1) = ns.take j ++ [n1] := by
          rw [List.take_succ, hn2]
          rfl
        have lw1 : n1 < ws.length := by omega
        have gw : ws[n1]? = some (ws.getD n1 0) := by
          rw [List.getD_eq_getElem?_getD, List.getElem?_eq_getElem lw1]
          rfl
        have gV : (ws.map V.int)[n1]? = some (V.int (ws.getD n1 0)) := by
          rw [List.getElem?_map, gw]
          rfl
        have hix : ixN (ws.map V.int).length ((n1 : Nat) : Int) = some n1 := by
          unfold ixN
          rw [List.length_map, if_pos (by omega), if_pos (by omega), Int.toNat_natCast]
        refine ⟨_, rfl, _, rfl, D, _, n1, .int (ws.getD n1 0), rfl, rfl, SqL.of hW, gV, _, _, rfl, rfl, D, _, _, n1, rfl, rfl, hW, hix, ?_⟩
        refine ⟨sb.trans SameBut.upd, ⟨_, rfl⟩, ws.set n1 (ws.getD n1 0 + 1), ?_, by rw [List.length_set]; exact lw, by rw [sum_set _ _ _ gw, sw]; omega, fun i hi => ?_⟩
        · rw [upd_same, List.map_set]
        · rw [tk, List.getD_eq_getElem?_getD, List.getElem?_set]
          by_cases c1 : n1 = i
          · subst c1
            rw [if_pos rfl, if_pos lw1, if_pos (List.mem_append.mpr (.inr (List.mem_singleton.mpr rfl)))]
            have := aw n1 m1
            rw [if_neg nin] at this
            show ws.getD n1 0 + 1 = _
            omega
          · rw [if_neg c1]
            have := aw i hi
            rw [List.getD_eq_getElem?_getD] at this
            rw [this]
            have e9 : (i ∈ ns.take j ++ [n1]) ↔ i ∈ ns.take j := by
              rw [List.mem_append, List.mem_singleton]
              exact ⟨fun h => h.elim id fun z => absurd z.symm c1, .inl⟩
            simp only [e9]
      obtain ⟨sb, ⟨y4, rfl⟩, ws, hW, lw, sw, aw⟩ := hP
      have tt : (ns.take (m + 1)).take ((ns.take (m + 1)).map fun i => V.int (i : Nat)).length = ns.take (m + 1) := by
        rw [List.length_map, List.take_length]
      have tl : ((ns.take (m + 1)).map fun i => V.int (i : Nat)).length = min (m + 1) ns.length := by rw [List.length_map, List.length_take]
      have tk2 : ns.take (min (m + 1) ns.length) = ns.take (m + 1) := by
        by_cases c1 : m + 1 ≤ ns.length
        · rw [Nat.min_eq_left c1]
        · rw [Nat.min_eq_right (by omega), List.take_length, List.take_of_length_le (by omega)]
      rw [tl] at sw aw
      rw [tk2] at aw
      clear tt
      have enX : LamX.ExtN H X := fun b o e n => sb _ _ (ne_of_none e hD0) (en3 b o e n)
      have tbX := tabs_by tb3 sb w3
      refine ⟨_, rfl, _, rfl, D, _, rfl, .inl (SqL.of hW), _, _, rfl, rfl, _, rfl, ite2 (fun c2 => ?_) (fun c2 => ?_)⟩
      · have c3 : ((ws.map V.int).length : Int) < total - sumF qs := toB c2
        rw [List.length_map] at c3
        have n0 : 0 < qs.length := by
          cases qs with
          | nil =>
            have := hn rfl
            rw [this] at c'
            exact absurd c' (by decide)
          | cons _ _ => exact Nat.succ_pos _
        have g0 : ws[0]? = some (ws.getD 0 0) := by
          rw [List.getD_eq_getElem?_getD, List.getElem?_eq_getElem (by omega)]
          rfl
        have gV : (ws.map V.int)[0]? = some (V.int (ws.getD 0 0)) := by
          rw [List.getElem?_map, g0]
          rfl
        have hix : ixN (ws.map V.int).length 0 = some 0 := by
          unfold ixN
          rw [List.length_map, if_pos (by omega), if_pos (by omega)]
          rfl
        refine ⟨_, rfl, D, _, 0, .int (ws.getD 0 0), rfl, rfl, SqL.of hW, gV, _, rfl, _, rfl, D, _, rfl, .inl (SqL.of hW), _, _, rfl, rfl, _, _, rfl, rfl, D, _, _, 0, rfl, rfl, hW, hix, ?_⟩
        have sb2 : SameBut D H3 (upd X D (.lst ((ws.map V.int).set 0 (V.int (ws.getD 0 0 + (total - sumF qs - ((ws.map V.int).length : Int))))))) := sb.trans SameBut.upd
        have gD : (upd X D (.lst ((ws.map V.int).set 0 (V.int (ws.getD 0 0 + (total - sumF qs - ((ws.map V.int).length : Int))))))) D = some (.lst ((ws.set 0 (ws.getD 0 0 + (total - sumF qs - (ws.length : Int)))).map V.int)) := by
          rw [upd_same, List.map_set, List.length_map]
        have en4 : LamX.ExtN H (upd X D (.lst ((ws.map V.int).set 0 (V.int (ws.getD 0 0 + (total - sumF qs - ((ws.map V.int).length : Int))))))) := fun b o e n => sb2 _ _ (ne_of_none e hD0) (en3 b o e n)
        have tb4 := tabs_by tb3 sb2 w3
        refine ⟨_, rfl, (by show 2 ≤ sizeLine; decide), fun Tp hTp => ?_⟩
        have sT := same_new (o := .tup [.ref D, .ref aO]) hTp
        refine k Tp D aO (ws.set 0 (ws.getD 0 0 + (total - sumF qs - (ws.length : Int)))) 1 _ (en4.trans (LamX.ExtN.of sT)) (tb4.ext sT) upd_same (sT _ _ gD) hD0 (tO _) (by rw [List.length_set]; exact lw) ?_ one_small (fun i hi => ?_)
        · rw [sum_set2 _ _ _ _ g0, sw, lw, Nat.min_eq_right (by omega), nl]
          omega
        · have e1 := aw i hi
          rw [if_pos (by rw [List.take_of_length_le (by omega)]; exact (inr i).mpr hi)] at e1
          have key : fl (fn qs i) + 1 ≤ (ws.set 0 (ws.getD 0 0 + (total - sumF qs - (ws.length : Int)))).getD i 0 ∧ (ws.set 0 (ws.getD 0 0 + (total - sumF qs - (ws.length : Int)))).getD i 0 ≤ fl (fn qs i) + 200 := by
            rw [List.getD_eq_getElem?_getD, List.getElem?_set]
            by_cases c4 : 0 = i
            · subst c4
              rw [if_pos rfl, if_pos (by omega)]
              show _ ≤ ws.getD 0 0 + (total - sumF qs - (ws.length : Int)) ∧ ws.getD 0 0 + (total - sumF qs - (ws.length : Int)) ≤ _
              omega
            · rw [if_neg c4, ← List.getD_eq_getElem?_getD]
              omega
          exact ⟨kept_high key.1, by omega, key.2⟩
      · have c3 : ¬ ((ws.map V.int).length : Int) < total - sumF qs := toNB c2
        rw [List.length_map] at c3
        have mn : m + 1 ≤ ns.length := by omega
        have gn : (ns.map fun i => V.int (i : Nat))[m]? = some (V.int (ns[m] : Nat)) := by
          rw [List.getElem?_map, List.getElem?_eq_getElem (by omega)]
          rfl
        have vn : ns[m] < qs.length := (inr _).mp (List.getElem_mem _)
        have loX : X lo = some (.lst (ns.map fun i => V.int (i : Nat))) := sb _ _ (fun z => nF _ (by rw [z]; exact hacc)) lo3
        have fX := frL_ext hq enX
        obtain ⟨vX, eX, lvX, hvX⟩ := fX.len
        obtain ⟨pv_, hpv, frv⟩ := FrsAt.fn hvX vn
        obtain ⟨s8, s9⟩ := sz (fn qs ns[m]) (fn_mem vn)
        have im : total - sumF qs - 1 = (m : Nat) := by omega
        refine ⟨_, rfl, _, rfl, _, rfl, _, rfl, _, _, rfl, rfl, lo, _, _, .int (ns[m] : Nat), rfl, rfl, SqL.of loX, by rw [im]; exact atI_nat gn, a, _, _, .ref pv_, rfl, rfl, SqL.of eX, atI_nat hpv, pv_, fn qs ns[m], rfl, frv, s8, s9, fun u H4 s4 fu => ?_⟩
        refine ⟨(by show 2 ≤ sizeLine; decide), fun Tp hTp => ?_⟩
        have sT := same_new (o := .tup [.ref D, .ref u]) hTp
        have SS := s4.trans sT
        refine k Tp D u ws (price (fn qs ns[m])) _ (enX.trans (LamX.ExtN.of SS)) (tbX.ext SS) upd_same (SS _ _ hW) hD0 (SqT.of (sT _ _ fu)) lw ?_ (price_small s8) (fun i hi => ?_)
        · rw [sw, Nat.min_eq_left mn]
          omega
        · have e1 := aw i hi
          obtain ⟨o1, o2⟩ := ord_in so (show m < ns.length by omega) ((inr i).mpr hi)
          by_cases c4 : i ∈ ns.take (m + 1)
          · rw [if_pos c4] at e1
            rw [e1]
            exact ⟨kept_up (o1 c4), by omega, by omega⟩
          · rw [if_neg c4, Int.add_zero] at e1
            rw [e1]
            exact ⟨kept_dn (o2 c4), by omega, by omega⟩
end
end E1

namespace E1
open PySem PySem.Spec PyProof.Rows L2
def spLowP : Sp := fun vs H Q _ => ∃ t b : Int, vs = [.int t, .int b] ∧ 0 < b ∧ b.natAbs < 2 ^ 4000 ∧ ∀ p, H p = none → Q (.ref p) (upd H p (.tup [.int (lowT t b), .int (lowB t b)]))
theorem lowTP {t b : Int} (hb : 0 < b) : t / gI t b = lowT t b ∧ b / gI t b = lowB t b := by
  unfold lowT lowB
  rw [if_neg (by omega), if_neg (by omega)]
  exact ⟨rfl, rfl⟩
theorem low_mul {t b : Int} (hb : 0 < b) : lowT t b * gI t b = t ∧ lowB t b * gI t b = b := by
  rw [← (lowTP hb).1, ← (lowTP hb).2]
  exact ⟨Int.ediv_mul_cancel (Int.gcd_dvd_left ..), Int.ediv_mul_cancel (Int.gcd_dvd_right ..)⟩
theorem WellAt.ne {H : Hp} {a p : Addr} {c : Int} (h : WellAt H a c) (n : H p = none) : p ≠ a := fun e => by
  obtain ⟨_, _, _, z, _⟩ := h
  rw [← e, n] at z
  cases z

theorem but_free {H H' : Hp} {w p : Addr} (s : SameBut w H H') (h : H' p = none) (n : p ≠ w) : H p = none := by
  cases e : H p with
  | none => rfl
  | some o =>
    rw [s _ _ n e] at h
    cases h
/-- a drawn value -/
def Vl (q : Rat) : Prop := q.den < 2 ^ 60 ∧ q.num.natAbs < 2 ^ 70
def spVal : Sp := fun vs H Q _ => ∃ (w : Addr) (c : Int), vs = [.ref w] ∧ WellAt H w c ∧ c ≤ 1000 ∧ ∀ p q H', H p = none → SameBut w H H' → Fr H' p q → Vl q → Q (.ref p) H'
def spOffP : Sp := fun vs H Q _ => ∃ (p : Addr) (q : Rat) (w : Int), vs = [.ref p, .int w] ∧ Fr H p q ∧ q.den < 2 ^ 100 ∧ w.natAbs < 2 ^ 200 ∧ ∀ u, H u = none → Q (.ref u) (upd H u (.tup [.int (off q w), .int (q.den : Int)]))
def spKept (K : PySem.W.Frag) : Sp := fun vs H Q _ => ∃ (p u : Addr) (q : Rat) (w pt pb : Int), vs = [.ref p, .int w, .ref u] ∧ Fr H p q ∧ Vl q ∧ w.natAbs < 2 ^ 100 ∧ SqT K H u [.int pt, .int pb] ∧ pt.natAbs < 2 ^ 100 ∧ pb.natAbs < 2 ^ 100 ∧ Kept q w pt pb ∧ ∀ H', Same H H' → Q (.bl true) H'
theorem fr_half {H : Hp} {p : Addr} {n : Int} (h : H p = some (.tup [.int (2 * n + 1), .int 2])) : Fr H p (Rat.divInt (2 * n + 1) 2) := by
  have g : gI (2 * n + 1) 2 = 1 := by
    unfold gI
    have h1 : (Int.gcd (2 * n + 1) 2 : Int) ∣ 2 * n + 1 := Int.gcd_dvd_left ..
    have h2 : (Int.gcd (2 * n + 1) 2 : Int) ∣ 2 := Int.gcd_dvd_right ..
    have h3 : (Int.gcd (2 * n + 1) 2 : Int) ∣ 1 := by
      have := Int.dvd_sub h1 (show (Int.gcd (2 * n + 1) 2 : Int) ∣ 2 * n from Int.dvd_trans h2 ⟨n, rfl⟩)
      rw [show 2 * n + 1 - 2 * n = 1 by omega] at this
      exact this
    have := Int.natAbs_dvd_natAbs.mpr h3
    have := Nat.le_of_dvd (by decide) this
    have : Int.gcd (2 * n + 1) 2 ≠ 0 := fun z => by
      have := (Int.gcd_eq_zero_iff.mp z).2
      omega
    omega
  refine Fr.low (by decide) rfl ?_
  rw [← (lowTP (t := 2 * n + 1) (b := 2) (by decide)).1, ← (lowTP (t := 2 * n + 1) (b := 2) (by decide)).2, g, Int.ediv_one, Int.ediv_one]
  exact h
theorem vl_div {t b : Int} (hb : 0 < b) (h1 : b < 2 ^ 60) (h2 : t.natAbs < 2 ^ 70) : Vl (Rat.divInt t b) := by
  have s : Sc b t.natAbs (Rat.divInt t b) := ⟨t, div_q (by omega), Nat.le_refl _⟩
  have d := Nat.le_of_dvd (by omega) (Int.natAbs_dvd_natAbs.mpr s.den)
  have n := s.num (by omega)
  exact ⟨by omega, by omega⟩
theorem sqT_ext {K : PySem.W.Frag} {H H' : Hp} {a : Addr} {xs : List V} (h : SqT K H a xs) (e : LamX.ExtN H H') : SqT K H' a xs := by
  rcases h with (h | ⟨o, h⟩) | h
  · exact .inl (.inl (e _ _ h (fun _ z => nomatch z)))
  · exact .inl (.inr ⟨o, e _ _ h (fun _ z => nomatch z)⟩)
  · exact .inr h
theorem off_small {q : Rat} {w : Int} (h : Vl q) (hw : w.natAbs < 2 ^ 110) : (off q w).natAbs < 2 ^ 180 := by
  obtain ⟨h1, h2⟩ := h
  have e : (absI (q.num - w * (q.den : Int))).natAbs = (q.num - w * (q.den : Int)).natAbs := by
    unfold absI
    split <;> omega
  have m := Nat.mul_lt_mul'' hw (show ((q.den : Int)).natAbs < 2 ^ 60 by omega)
  rw [← Int.natAbs_mul] at m
  unfold off
  rw [e]
  generalize w * (q.den : Int) = z at *
  have e2 : (2 : Nat) ^ 110 * 2 ^ 60 = 2 ^ 170 := by decide
  omega
theorem vl_int {n : Int} (h : n.natAbs < 2 ^ 70) : Vl (n : Rat) := by
  unfold Vl
  rw [Rat.num_intCast, Rat.den_intCast]
  exact ⟨by decide, h⟩
section
variable {P : Program} {w : World} {K : PySem.W.Frag} {mg : Str → Option Value} {base : Heap}
theorem sc__law_cell_at : FnScope ["_law_script", "_law_k"] ["_law_script", "_law_k"] (defScope s__law_cell_at) := ⟨rfl, rfl, rfl, by decide +kernel, rfl, by decide +kernel, by decide +kernel⟩
theorem sc__law_well : FnScope ["_law_cell"] ["_law_cell"] (defScope s__law_well) := ⟨rfl, rfl, rfl, by decide +kernel, rfl, by decide +kernel, by decide +kernel⟩
theorem sc__law_draw : FnScope ["_law_well_here", "_law_many", "_law_found", "_law_number"] ["_law_well_here", "_law_many"] (defScope s__law_draw) := ⟨rfl, rfl, rfl, by decide +kernel, rfl, by decide +kernel, by decide +kernel⟩
theorem ok_cell {f : Addr} {fd : FuncData} {k : Nat} (F : Fun K "_law_cell_at" "_law_cell_at" s__law_cell_at f fd) (zl : mg "len" = none) : FnOk P w K mg base CX0 (k + 1) f fd ["_law_script", "_law_k"] (spCell K) := by
  refine F.ok sc__law_cell_at (fun vs H Q E h => ?_) (fun cdv A outer s H vs Q E hr h => ?_)
  · obtain ⟨a, ns, k, rfl, _⟩ := h
    rfl
  · obtain ⟨a, ns, k, rfl, hS, q⟩ := h
    refine ⟨_, (pss_cons (ps_if (pt_cmpR op_lt (pv 1) (pe_callB call_len_seq (by rfl) zl PySem.boot_len (pa_cons (pv 0) pa_nil)) (nomark _)) (pss_one (ps_ret (pe_ix ix_list (pv 0) (pv 1) (fun _ _ => rfl)))) pss_nil)
      (pss_one (ps_ret pe_int))), ?_⟩
    refine ⟨_, rfl, _, rfl, a, _, rfl, .inl hS, _, _, rfl, rfl, _, rfl, ite2 (fun c => ?_) (fun c => ?_)⟩
    · have hk : k < ns.length := by
        have := toB c
        rw [List.length_map] at this
        omega
      refine ⟨_, rfl, _, rfl, a, _, k, .int (ns.getD k 0), rfl, rfl, hS, atI_nat ?_, q⟩
      rw [List.getElem?_map, List.getElem?_eq_getElem hk, List.getD_eq_getElem?_getD, List.getElem?_eq_getElem hk]
      rfl
    · have hk : ¬ k < ns.length := fun z => by
        have := toNB c
        rw [List.length_map] at this
        omega
      have e : ns.getD k 0 = 0 := by
        rw [List.getD_eq_getElem?_getD, List.getElem?_eq_none (by omega)]
        rfl
      rw [e] at q
      exact q
theorem ok_well {f : Addr} {fd : FuncData} {k : Nat} (F : Fun K "_law_well" "_law_well" s__law_well f fd) (zi : mg "int" = none) : FnOk P w K mg base CX0 (k + 1) f fd ["_law_cell"] spWell := by
  refine F.ok sc__law_well (fun vs H Q E h => ?_) (fun cdv A outer s H vs Q E hr h => ?_)
  · obtain ⟨c, rfl, _⟩ := h
    rfl
  · obtain ⟨c, rfl, q⟩ := h
    refine ⟨_, (pss_one (ps_ret (pe_lst (pa_cons (pe_op op_mul (pv 0) (pe_callTy call_int1 (by rfl) zi (by decide +kernel) (pa_cons (pe_cmpR op_ge (pv 0) (pe_op op_pow pe_int pe_int) (nomark _)) pa_nil))) (pa_cons (pe_op op_mod (pv 0) pe_int) (pa_cons pe_int pa_nil)))))), ?_⟩
    refine ⟨_, rfl, _, rfl, _, _, rfl, rfl, ⟨by decide, by decide, by decide⟩, _, _, rfl, rfl, .inr ⟨_, rfl, _, _, rfl, rfl, .inr ?_, ?_⟩⟩
    · split <;> decide
    · refine ⟨_, rfl, _, _, rfl, rfl, (by show (0 : Int) < 2147483647; decide), (by show 3 ≤ sizeLine; decide), fun p hp => ?_⟩
      exact q p hp _ (same_new hp) ⟨_, _, _, upd_same, Int.emod_nonneg _ (by decide), Int.emod_lt_of_pos _ (by decide), Int.le_refl _, Int.le_refl _⟩
theorem ok_draw {f : Addr} {fd : FuncData} {k : Nat} (F : Fun K "_law_draw" "_law_draw" s__law_draw f fd) : FnOk P w K mg base CX0 (k + 1) f fd ["_law_well_here", "_law_many"] spDraw := by
  refine F.ok sc__law_draw (fun vs H Q E h => ?_) (fun cdv A outer s H vs Q E hr h => ?_)
  · obtain ⟨a, c, m, rfl, _⟩ := h
    rfl
  · obtain ⟨a, c, m, rfl, ⟨x, y, z, hw, y0, y1, z0, z1⟩, hc, m0, m1, q⟩ := h
    have fr : ∀ o b, H b = none → (upd H a o) b = none := fun o b hb => by
      rw [upd_ne (fun e => by rw [e, hw] at hb; cases hb)]
      exact hb
    refine ⟨_, (pss_cons (ps_if (pt_cmpR op_gt (pe_ix ix_list (pv 0) pe_int (fun _ _ => rfl)) pe_int (nomark _)) (pss_cons (ps_set (i := 2) sc__law_draw.nd rfl (.inl rfl) (pe_op op_mod (pe_ix ix_list (pv 0) pe_int (fun _ _ => rfl)) (pv 1)))
      (pss_cons (ps_asg (pe_op op_fdivW (pe_ix ix_list (pv 0) pe_int (fun _ _ => rfl)) (pv 1)) (pg_sub (pv 0) pe_int set_list))
      (pss_one (ps_ret (pv 2))))) pss_nil)
      (pss_cons (ps_asg (pe_op op_add (pe_ix ix_list (pv 0) pe_int (fun _ _ => rfl)) pe_int) (pg_sub (pv 0) pe_int set_list))
      (pss_cons (ps_set (i := 3) sc__law_draw.nd rfl (.inl rfl) (pe_op op_mod (pe_op op_pow (pe_op op_add (pe_op op_add (pe_ix ix_list (pv 0) pe_int (fun _ _ => rfl)) (pe_op op_mul pe_int (pe_ix ix_list (pv 0) pe_int (fun _ _ => rfl)))) pe_int) pe_int) pe_int))
      (pss_cons (ps_set (i := 3) sc__law_draw.nd rfl (.inl rfl) (pe_op op_mod (pe_op op_mul (pv 3) (pe_op op_add (pe_op op_fdiv (pv 3) pe_int) pe_int)) pe_int))
      (pss_one (ps_ret (pe_op op_mod (pe_op op_mod (pe_op op_mul (pv 3) (pe_op op_add (pe_op op_fdiv (pv 3) pe_int) pe_int)) pe_int) (pv 1)))))))), ?_⟩
    refine ⟨_, rfl, a, _, 0, .int x, rfl, rfl, SqL.of hw, a0, x, 0, rfl, rfl, _, rfl, ite2 (fun c => ?_) (fun c => ?_)⟩
    · refine ⟨_, rfl, a, _, 0, .int x, rfl, rfl, SqL.of hw, a0, _, rfl, x, m, rfl, rfl, m0, ?_⟩
      refine ⟨_, rfl, a, _, 0, .int x, rfl, rfl, SqL.of hw, a0, _, rfl, x, m, rfl, rfl, wide_div m0 m1 (by decide) (Nat.le_refl _), _, rfl, a, _, 0, 0, rfl, rfl, hw, rfl, ?_⟩
      refine ⟨_, rfl, q _ _ (Int.emod_nonneg _ (by omega)) (Int.emod_lt_of_pos _ m0) SameBut.upd (fr _) ⟨_, _, _, upd_same, y0, y1, z0, by omega⟩⟩
    · refine ⟨_, rfl, a, _, 2, .int z, rfl, rfl, SqL.of hw, a2, z, 1, rfl, rfl, _, rfl, a, _, 2, 2, rfl, rfl, hw, rfl, ?_⟩
      have hw2 : (upd H a (.lst [V.int x, V.int y, V.int (z + 1)])) a = some (.lst [V.int x, V.int y, V.int (z + 1)]) := upd_same
      have n5 : 0 ≤ y + 7919 * (z + 1) + 1 ∧ y + 7919 * (z + 1) + 1 < 18446744073709551616 := by omega
      refine ⟨_, rfl, a, _, 1, .int y, rfl, rfl, SqL.of hw2, a1, _, rfl, a, _, 2, .int (z + 1), rfl, rfl, SqL.of hw2, a2, _, _, rfl, rfl, .inl ⟨by decide, by decide⟩, _, _, rfl, rfl, _, _, rfl, rfl, _, _, rfl, rfl, ⟨by decide, by decide, ?_⟩, _, _, rfl, rfl, (by show (0 : Int) < 2147483647; decide), ?_⟩
      · show (y + 7919 * (z + 1) + 1).natAbs < 18446744073709551616
        omega
      · generalize hn : (y + 7919 * (z + 1) + 1) ^ (5 : Int).toNat % 2147483647 = n
        have n0 : 0 ≤ n := by rw [← hn]; exact Int.emod_nonneg _ (by decide)
        have n1 : n < 2147483647 := by rw [← hn]; exact Int.emod_lt_of_pos _ (by decide)
        refine ⟨_, rfl, _, rfl, _, _, rfl, rfl, ⟨by decide, by decide⟩, _, _, rfl, rfl, _, _, rfl, rfl, .inl ⟨by omega, by omega⟩, _, _, rfl, rfl, (by show (0 : Int) < 2147483629; decide), ?_⟩
        generalize hm : n * (n / 1009 + 69621) % 2147483629 = u
        have u0 : 0 ≤ u := by rw [← hm]; exact Int.emod_nonneg _ (by decide)
        have u1 : u < 2147483629 := by rw [← hm]; exact Int.emod_lt_of_pos _ (by decide)
        refine ⟨_, rfl, _, rfl, _, _, rfl, rfl, ⟨by decide, by decide⟩, _, _, rfl, rfl, _, _, rfl, rfl, .inl ⟨by omega, by omega⟩, _, _, rfl, rfl, (by show (0 : Int) < 2147483587; decide), _, rfl, _, _, rfl, rfl, m0, ?_⟩
        exact q _ _ (Int.emod_nonneg _ (by omega)) (Int.emod_lt_of_pos _ m0) SameBut.upd (fr _) ⟨_, _, _, upd_same, y0, y1, by omega, by omega⟩
theorem sc__law_low : FnScope ["_law_top", "_law_bottom", "_law_one", "_law_other"] ["_law_top", "_law_bottom"] (defScope s__law_low) := ⟨rfl, rfl, rfl, by decide +kernel, rfl, by decide +kernel, by decide +kernel⟩
theorem ok__law_low {f : Addr} {fd : FuncData} {k : Nat} (F : Fun K "_law_low" "_law_low" s__law_low f fd) (z : Zs mg) : FnOk P w K mg base CX0 (k + 1) f fd ["_law_top", "_law_bottom"] spLowP := by
  refine F.ok sc__law_low (fun vs H Q E h => ?_) (fun cdv A outer s H vs Q E hr h => ?_)
  · obtain ⟨t, b, rfl, _⟩ := h
    rfl
  · obtain ⟨t, b, rfl, hb, hl, q⟩ := h
    refine ⟨_, (pss_cons (ps_set (i := 2) sc__law_low.nd rfl (.inl rfl) (pe_callB call_abs (by rfl) z.abs (by decide +kernel) (pa_cons (pv 0) pa_nil)))
      (pss_cons (ps_set (i := 3) sc__law_low.nd rfl (.inl rfl) (pv 1))
      (pss_cons (ps_while PassesOwn.never (pt_cmpR op_gt (pv 3) pe_int (nomark _)) (pss_one (ps_par (i := 2) (j := 3) (by rfl) sc__law_low.nd rfl rfl (by decide) rfl rfl (pa_cons (pv 3) (pa_cons (pe_op op_mod (pv 2) (pv 3)) pa_nil)) (by rfl))))
      (pss_one (ps_ret (pe_tup (pa_cons (pe_op op_fdivW (pv 0) (pv 2)) (pa_cons (pe_op op_fdivW (pv 1) (pv 2)) pa_nil)))))))), ?_⟩
    have g0 := gI_pos (t := t) (b := b) (by omega)
    have g1 : (gI t b).natAbs < 2 ^ 4000 := Nat.lt_of_le_of_lt (gI_le (by omega)) hl
    refine ⟨_, rfl, _, rfl, ?_⟩
    refine ⟨_, rfl, ?_⟩
    dsimp only [gName, tSeq]
    refine while_by (fun σ H' => H' = H ∧ ∃ m n : Nat, σ = [some (.int t), some (.int b), some (.int (m : Int)), some (.int (n : Int))] ∧ Nat.gcd m n = Int.gcd t b)
      (fun σ _ => match σ with | [_, _, _, some (.int r)] => r.toNat | _ => 0) ⟨rfl, t.natAbs, b.natAbs, ?_, rfl⟩ (fun σ H1 hP => ?_) (fun σ H Q Q' m hh => ?_)
    · have e1 : (if t < 0 then -t else t) = (t.natAbs : Int) := by split <;> omega
      have e2 : b = (b.natAbs : Int) := by omega
      show [some (V.int t), some (V.int b), some (V.int (if t < 0 then -t else t)), some (V.int b)] = _
      rw [e1, ← e2]
    · obtain ⟨rfl, m, n, rfl, hg⟩ := hP
      refine ⟨_, rfl, _, _, rfl, rfl, _, rfl, ite2 (fun c => ?_) (fun c => ?_)⟩
      · have hn := toB c
        refine ⟨_, rfl, _, rfl, _, rfl, _, _, rfl, rfl, (by omega), _, _, rfl, ⟨⟨rfl, n, m % n, rfl, ?_⟩, ?_⟩⟩
        · rw [← hg, Nat.gcd_comm n (m % n), ← Nat.gcd_rec n m, Nat.gcd_comm]
        · show ((m : Int) % (n : Int)).toNat < ((n : Int)).toNat
          have := Int.emod_lt_of_pos (m : Int) (show (0 : Int) < n by omega)
          have := Int.emod_nonneg (m : Int) (show (n : Int) ≠ 0 by omega)
          omega
      · have hn := toNB c
        have e0 : n = 0 := by omega
        subst e0
        rw [Nat.gcd_zero_right] at hg
        have e2 : (m : Int) = gI t b := by
          unfold gI
          rw [hg]
        rw [e2]
        refine ⟨_, rfl, _, rfl, _, _, rfl, rfl, wide_div g0 g1 (by decide) (by decide), _, rfl, _, rfl, _, _, rfl, rfl, wide_div g0 g1 (by decide) (by decide), (by show 2 ≤ sizeLine; decide), fun p hp => ?_⟩
        have := q p hp
        rw [← (lowTP hb).1, ← (lowTP hb).2] at this
        exact this
    · obtain ⟨v, e, i, j, e1, e2, kk, ek, hq⟩ := hh
      exact ⟨v, e, i, j, e1, e2, kk, ek, m _ _ hq⟩
theorem sc__law_value : FnScope ["_law_well_here", "_law_sort", "_law_whole", "_law_bottom"] ["_law_well_here"] (defScope s__law_value) := ⟨rfl, rfl, rfl, by decide +kernel, rfl, by decide +kernel, by decide +kernel⟩
theorem ok__law_value {f : Addr} {fd : FuncData} (F : Fun K "_law_value" "_law_value" s__law_value f fd) (c__law_draw : Cal P w K mg base 1 "_law_draw" ["_law_well_here", "_law_many"] spDraw) (c__law_low : Cal P w K mg base 1 "_law_low" ["_law_top", "_law_bottom"] spLowP) : FnOk P w K mg base CX0 2 f fd ["_law_well_here"] spVal := by
  refine F.ok sc__law_value (fun vs H Q E h => ?_) (fun cdv A outer s H vs Q E hr h => ?_)
  · obtain ⟨ww, c, rfl, _⟩ := h
    rfl
  · obtain ⟨ww, c, rfl, hw, hc, k⟩ := h
    refine ⟨_, (pss_cons (ps_set (i := 1) sc__law_value.nd rfl (.inl rfl) (pe_cal c__law_draw hr (pa_cons (pv 0) (pa_cons pe_int pa_nil))))
      (pss_cons (ps_set (i := 2) sc__law_value.nd rfl (.inl rfl) (pe_op op_sub (pe_cal c__law_draw hr (pa_cons (pv 0) (pa_cons pe_int pa_nil))) pe_int))
      (pss_cons (ps_if (pt_cmpR op_eq (pv 1) pe_int (nomark _)) (pss_one (ps_ret (pe_tup (pa_cons (pv 2) (pa_cons pe_int pa_nil))))) pss_nil)
      (pss_cons (ps_if (pt_cmpR op_eq (pv 1) pe_int (nomark _)) (pss_one (ps_ret (pe_tup (pa_cons (pe_op op_add (pe_op op_mul pe_int (pv 2)) pe_int) (pa_cons pe_int pa_nil))))) pss_nil)
      (pss_cons (ps_set (i := 3) sc__law_value.nd rfl (.inl rfl) (pe_op op_add pe_int (pe_cal c__law_draw hr (pa_cons (pv 0) (pa_cons pe_int pa_nil)))))
      (pss_cons (ps_if (pt_cmpR op_eq (pv 1) pe_int (nomark _)) (pss_one (ps_set (i := 3) sc__law_value.nd rfl (.inl rfl) (pe_op op_add pe_int (pe_op op_mulW (pe_cal c__law_draw hr (pa_cons (pv 0) (pa_cons (pe_op op_pow pe_int pe_int) pa_nil))) (pe_op op_add pe_int (pe_cal c__law_draw hr (pa_cons (pv 0) (pa_cons (pe_op op_pow pe_int pe_int) pa_nil)))))))) pss_nil)
      (pss_cons (ps_if (pt_cmpR op_eq (pv 1) pe_int (nomark _)) (pss_one (ps_set (i := 2) sc__law_value.nd rfl (.inl rfl) (pe_op op_sub (pe_cal c__law_draw hr (pa_cons (pv 0) (pa_cons (pe_op op_pow pe_int pe_int) pa_nil))) (pe_op op_pow pe_int pe_int)))) pss_nil)
      (pss_one (ps_ret (pe_cal c__law_low hr (pa_cons (pe_op op_add (pe_op op_mulW (pv 2) (pv 3)) (pe_cal c__law_draw hr (pa_cons (pv 0) (pa_cons (pv 3) pa_nil)))) (pa_cons (pv 3) pa_nil)))))))))))), ?_⟩
    have e9 : (10 : Int) ^ (9 : Int).toNat = 1000000000 := by decide
    have e8 : (10 : Int) ^ (8 : Int).toNat = 100000000 := by decide
    refine ⟨_, rfl, ww, c, 5, rfl, hw, by omega, by decide, by decide, fun r1 H1 r10 r11 d1 f1 w1 => ⟨_, rfl, ww, c + 1, 7, rfl, w1, by omega, by decide, by decide, fun r2 H2 r20 r21 d2 f2 w2 => ⟨_, _, rfl, rfl, ?_⟩⟩⟩
    have D2 := d1.trans d2
    refine ⟨_, rfl, rfl, _, rfl, ite2 (fun c0 => ?_) (fun c0 => ?_)⟩
    · refine ⟨_, rfl, (by show 2 ≤ sizeLine; decide), fun p hp => ?_⟩
      have n := w2.ne hp
      exact k p ((r2 - 3 : Int) : Rat) _ (but_free D2 hp n) (D2.trans (SameBut.of (same_new hp))) (fr_int upd_same) (vl_int (by omega))
    refine ⟨_, rfl, rfl, _, rfl, ite2 (fun c1 => ?_) (fun c1 => ?_)⟩
    · refine ⟨_, rfl, _, _, rfl, rfl, .inl ⟨by omega, by omega⟩, _, _, rfl, rfl, (by show 2 ≤ sizeLine; decide), fun p hp => ?_⟩
      have n := w2.ne hp
      exact k p (Rat.divInt (2 * (r2 - 3) + 1) 2) _ (but_free D2 hp n) (D2.trans (SameBut.of (same_new hp))) (fr_half upd_same) (vl_div (by decide) (by decide) (by omega))
    refine ⟨_, rfl, ww, c + 1 + 1, 9, rfl, w2, by omega, by decide, by decide, fun r3 H3 r30 r31 d3 f3 w3 => ⟨_, _, rfl, rfl, ?_⟩⟩
    have D3 := D2.trans d3
    refine ⟨_, rfl, rfl, _, rfl, ite2 (fun c4 => ?_) (fun c4 => ?_)⟩
    · refine ⟨_, rfl, _, _, rfl, rfl, ⟨by decide, by decide, by decide⟩, ww, c + 1 + 1 + 1, _, rfl, w3, by omega, by decide, by decide, fun r4 H4 r40 r41 d4 f4 w4 => ⟨_, rfl, _, _, rfl, rfl, ⟨by decide, by decide, by decide⟩, ww, c + 1 + 1 + 1 + 1, _, rfl, w4, by omega, by decide, by decide, fun r5 H5 r50 r51 d5 f5 w5 => ⟨_, _, rfl, rfl, ?_⟩⟩⟩
      rw [e9] at r41 r51
      have m45 := Int.mul_nonneg r40 (show 0 ≤ 1 + r5 by omega)
      have l45 := Nat.mul_le_mul (show r4.natAbs ≤ 999999999 by omega) (show (1 + r5).natAbs ≤ 1000000000 by omega)
      rw [← Int.natAbs_mul] at l45
      refine ⟨_, _, rfl, rfl, wide_mul (a := 30) (b := 31) (by omega) (by omega) (by decide) (by decide) (by decide), _, _, rfl, rfl, ?_⟩
      have D5 := D3.trans (d4.trans d5)
      generalize hb : r4 * (1 + r5) = bb at *
      refine ⟨_, rfl, rfl, _, rfl, ite2 (fun c3 => ?_) (fun c3 => ?_)⟩
      · exact absurd ((of_decide_eq_true c4).symm.trans (of_decide_eq_true c3)) (by decide)
      · refine ⟨_, rfl, _, rfl, _, _, rfl, rfl, wide_mul (a := 40) (b := 61) (show ((r2 - 3)).natAbs < 2 ^ 40 by omega) (show (1 + bb).natAbs < 2 ^ 61 by omega) (by decide) (by decide) (by decide), _, rfl, _, rfl, ww, c + 1 + 1 + 1 + 1 + 1, 1 + bb, rfl, w5, by omega, by omega, Nat.lt_of_lt_of_le (show (1 + bb).natAbs < 2 ^ 60 by omega) (Nat.pow_le_pow_right (by decide) (by decide)), fun r9 H9 r90 r91 d9 f9 w9 => ⟨_, _, rfl, rfl, _, rfl, _, _, rfl, by omega, Nat.lt_of_lt_of_le (show (1 + bb).natAbs < 2 ^ 60 by omega) (Nat.pow_le_pow_right (by decide) (by decide)), fun p hp => ?_⟩⟩
        have n9 := w9.ne hp
        have D9 : SameBut ww H H9 := (D5).trans d9
        have szt : ((r2 - 3) * (1 + bb) + r9).natAbs < 2 ^ 70 := by
          have := Nat.mul_le_mul (show ((r2 - 3)).natAbs ≤ 4 by omega) (show (1 + bb).natAbs ≤ 1000000000000000000 by omega)
          rw [← Int.natAbs_mul] at this
          omega
        exact k p (Rat.divInt ((r2 - 3) * (1 + bb) + r9) (1 + bb)) _ (but_free D9 hp n9) (D9.trans (SameBut.of (same_new hp))) (Fr.low (by omega) rfl upd_same) (vl_div (by omega) (by omega) szt)
    · refine ⟨_, rfl, rfl, _, rfl, ite2 (fun c3 => ?_) (fun c3 => ?_)⟩
      · refine ⟨_, rfl, _, _, rfl, rfl, ⟨by decide, by decide, by decide⟩, ww, c + 1 + 1 + 1, _, rfl, w3, by omega, by decide, by decide, fun r4 H4 r40 r41 d4 f4 w4 => ⟨_, _, rfl, rfl, ⟨by decide, by decide, by decide⟩, _, _, rfl, rfl, ?_⟩⟩
        rw [e9] at r41
        rw [e8]
        have D4 := D3.trans d4
        refine ⟨_, rfl, _, rfl, _, _, rfl, rfl, wide_mul (a := 40) (b := 61) (show ((r4 - 100000000)).natAbs < 2 ^ 40 by omega) (show (1 + r3).natAbs < 2 ^ 61 by omega) (by decide) (by decide) (by decide), _, rfl, _, rfl, ww, c + 1 + 1 + 1 + 1, 1 + r3, rfl, w4, by omega, by omega, Nat.lt_of_lt_of_le (show (1 + r3).natAbs < 2 ^ 60 by omega) (Nat.pow_le_pow_right (by decide) (by decide)), fun r9 H9 r90 r91 d9 f9 w9 => ⟨_, _, rfl, rfl, _, rfl, _, _, rfl, by omega, Nat.lt_of_lt_of_le (show (1 + r3).natAbs < 2 ^ 60 by omega) (Nat.pow_le_pow_right (by decide) (by decide)), fun p hp => ?_⟩⟩
        have n9 := w9.ne hp
        have D9 : SameBut ww H H9 := (D4).trans d9
        have szt : ((r4 - 100000000) * (1 + r3) + r9).natAbs < 2 ^ 70 := by
          have := Nat.mul_le_mul (show ((r4 - 100000000)).natAbs ≤ 1000000000 by omega) (show (1 + r3).natAbs ≤ 10 by omega)
          rw [← Int.natAbs_mul] at this
          omega
        exact k p (Rat.divInt ((r4 - 100000000) * (1 + r3) + r9) (1 + r3)) _ (but_free D9 hp n9) (D9.trans (SameBut.of (same_new hp))) (Fr.low (by omega) rfl upd_same) (vl_div (by omega) (by omega) szt)
      · refine ⟨_, rfl, _, rfl, _, _, rfl, rfl, wide_mul (a := 40) (b := 61) (show ((r2 - 3)).natAbs < 2 ^ 40 by omega) (show (1 + r3).natAbs < 2 ^ 61 by omega) (by decide) (by decide) (by decide), _, rfl, _, rfl, ww, c + 1 + 1 + 1, 1 + r3, rfl, w3, by omega, by omega, Nat.lt_of_lt_of_le (show (1 + r3).natAbs < 2 ^ 60 by omega) (Nat.pow_le_pow_right (by decide) (by decide)), fun r9 H9 r90 r91 d9 f9 w9 => ⟨_, _, rfl, rfl, _, rfl, _, _, rfl, by omega, Nat.lt_of_lt_of_le (show (1 + r3).natAbs < 2 ^ 60 by omega) (Nat.pow_le_pow_right (by decide) (by decide)), fun p hp => ?_⟩⟩
        have n9 := w9.ne hp
        have D9 : SameBut ww H H9 := (D3).trans d9
        have szt : ((r2 - 3) * (1 + r3) + r9).natAbs < 2 ^ 70 := by
          have := Nat.mul_le_mul (show ((r2 - 3)).natAbs ≤ 4 by omega) (show (1 + r3).natAbs ≤ 10 by omega)
          rw [← Int.natAbs_mul] at this
          omega
        exact k p (Rat.divInt ((r2 - 3) * (1 + r3) + r9) (1 + r3)) _ (but_free D9 hp n9) (D9.trans (SameBut.of (same_new hp))) (Fr.low (by omega) rfl upd_same) (vl_div (by omega) (by omega) szt)
theorem sc__law_off : FnScope ["_law_value_here", "_law_word"] ["_law_value_here", "_law_word"] (defScope s__law_off) := ⟨rfl, rfl, rfl, by decide +kernel, rfl, by decide +kernel, by decide +kernel⟩
theorem ok__law_off {f : Addr} {fd : FuncData} {k : Nat} (F : Fun K "_law_off" "_law_off" s__law_off f fd) (z : Zs mg) : FnOk P w K mg base CX0 (k + 1) f fd ["_law_value_here", "_law_word"] spOffP := by
  refine F.ok sc__law_off (fun vs H Q E h => ?_) (fun cdv A outer s H vs Q E hr h => ?_)
  · obtain ⟨p, q, w, rfl, _⟩ := h
    rfl
  · obtain ⟨p, q, w, rfl, hp, hd, hw, k⟩ := h
    refine ⟨_, (pss_one (ps_ret (pe_tup (pa_cons (pe_callB call_abs (by rfl) z.abs (by decide +kernel) (pa_cons (pe_op op_sub (pe_ix ix_tup (pv 0) pe_int (fun _ _ => rfl)) (pe_op op_mulW (pv 1) (pe_ix ix_tup (pv 0) pe_int (fun _ _ => rfl)))) pa_nil)) (pa_cons (pe_ix ix_tup (pv 0) pe_int (fun _ _ => rfl)) pa_nil))))), ?_⟩
    have d9 : ((q.den : Int)).natAbs < 2 ^ 100 := by omega
    refine ⟨_, rfl, p, _, 0, .int q.num, rfl, rfl, SqT.of hp, a0, _, rfl, _, rfl, p, _, 1, .int q.den, rfl, rfl, SqT.of hp, a1, _, _, rfl, rfl, wide_mul hw d9 (by decide) (by decide) (by decide), _, _, rfl, rfl, _, rfl, _, rfl, p, _, 1, .int q.den, rfl, rfl, SqT.of hp, a1, (by show 2 ≤ sizeLine; decide), fun u hu => k u hu⟩
theorem sc__law_kept : FnScope ["_law_value_here", "_law_word", "_law_price", "_law_here", "_law_more", "_law_less", "_law_bottom"] ["_law_value_here", "_law_word", "_law_price"] (defScope s__law_kept) := ⟨rfl, rfl, rfl, by decide +kernel, rfl, by decide +kernel, by decide +kernel⟩
theorem ok__law_kept {f : Addr} {fd : FuncData} (F : Fun K "_law_kept" "_law_kept" s__law_kept f fd) (c__law_off : Cal P w K mg base 1 "_law_off" ["_law_value_here", "_law_word"] spOffP) : FnOk P w K mg base CX0 2 f fd ["_law_value_here", "_law_word", "_law_price"] (spKept K) := by
  refine F.ok sc__law_kept (fun vs H Q E h => ?_) (fun cdv A outer s H vs Q E hr h => ?_)
  · obtain ⟨p, u, q, w, pt, pb, rfl, _⟩ := h
    rfl
  · obtain ⟨p, u, q, w, pt, pb, rfl, hp, hv, hw, hu, h1, h2, kk, k⟩ := h
    refine ⟨_, (pss_cons (ps_set (i := 3) sc__law_kept.nd rfl (.inl rfl) (pe_ix ix_tup (pe_cal c__law_off hr (pa_cons (pv 0) (pa_cons (pv 1) pa_nil))) pe_int (fun _ _ => rfl)))
      (pss_cons (ps_set (i := 4) sc__law_kept.nd rfl (.inl rfl) (pe_ix ix_tup (pe_cal c__law_off hr (pa_cons (pv 0) (pa_cons (pe_op op_add (pv 1) pe_int) pa_nil))) pe_int (fun _ _ => rfl)))
      (pss_cons (ps_set (i := 5) sc__law_kept.nd rfl (.inl rfl) (pe_ix ix_tup (pe_cal c__law_off hr (pa_cons (pv 0) (pa_cons (pe_op op_sub (pv 1) pe_int) pa_nil))) pe_int (fun _ _ => rfl)))
      (pss_cons (ps_set (i := 6) sc__law_kept.nd rfl (.inl rfl) (pe_ix ix_tup (pv 0) pe_int (fun _ _ => rfl)))
      (pss_one (ps_ret (pe_and (pe_cmpR op_ge (pe_op op_mulW (pe_op op_sub (pv 4) (pv 3)) (pe_ix ix_tup (pv 2) pe_int (fun _ _ => rfl))) (pe_op op_mulW (pe_ix ix_tup (pv 2) pe_int (fun _ _ => rfl)) (pv 6)) (nomark _)) (pe_one (pe_cmpR op_ge (pe_op op_mulW (pe_op op_sub (pv 5) (pv 3)) (pe_ix ix_tup (pv 2) pe_int (fun _ _ => rfl))) (pe_op op_sub pe_int (pe_op op_mulW (pe_ix ix_tup (pv 2) pe_int (fun _ _ => rfl)) (pv 6))) (nomark _)))))))))), ?_⟩
    refine ⟨_, rfl, _, rfl, p, q, w, rfl, hp, up hv.1 (by decide), up hw (by decide), fun u1 hu1 => ?_⟩
    have s1 := same_new (o := .tup [.int (off q w), .int (q.den : Int)]) hu1
    refine ⟨u1, _, 0, .int (off q w), rfl, rfl, SqT.of upd_same, a0, ?_⟩
    have hp1 := s1 _ _ hp
    have q1 : SqT K (upd H u1 (.tup [.int (off q w), .int (q.den : Int)])) u [.int pt, .int pb] := sqT_ext hu (LamX.ExtN.of s1)
    generalize upd H u1 _ = H1 at s1 hp1 q1 ⊢
    refine ⟨_, rfl, _, rfl, _, _, rfl, rfl, p, q, w + 1, rfl, hp1, up hv.1 (by decide), Nat.lt_of_lt_of_le (show (w + 1).natAbs < 2 ^ 101 by omega) (Nat.pow_le_pow_right (by decide) (by decide)), fun u2 hu2 => ?_⟩
    have s2 := same_new (o := .tup [.int (off q (w + 1)), .int (q.den : Int)]) hu2
    refine ⟨u2, _, 0, .int (off q (w + 1)), rfl, rfl, SqT.of upd_same, a0, ?_⟩
    have hp2 := s2 _ _ hp1
    have q2 : SqT K (upd H1 u2 (.tup [.int (off q (w + 1)), .int (q.den : Int)])) u [.int pt, .int pb] := sqT_ext q1 (LamX.ExtN.of s2)
    generalize upd H1 u2 _ = H2 at s2 hp2 q2 ⊢
    refine ⟨_, rfl, _, rfl, _, _, rfl, rfl, p, q, w - 1, rfl, hp2, up hv.1 (by decide), Nat.lt_of_lt_of_le (show (w - 1).natAbs < 2 ^ 101 by omega) (Nat.pow_le_pow_right (by decide) (by decide)), fun u3 hu3 => ?_⟩
    have s3 := same_new (o := .tup [.int (off q (w - 1)), .int (q.den : Int)]) hu3
    refine ⟨u3, _, 0, .int (off q (w - 1)), rfl, rfl, SqT.of upd_same, a0, ?_⟩
    have hp3 := s3 _ _ hp2
    have q3 : SqT K (upd H2 u3 (.tup [.int (off q (w - 1)), .int (q.den : Int)])) u [.int pt, .int pb] := sqT_ext q2 (LamX.ExtN.of s3)
    generalize upd H2 u3 _ = H3 at s3 hp3 q3 ⊢
    have b0 := off_small hv (w := w) (by omega)
    have b1 := off_small hv (w := w + 1) (by omega)
    have b2 := off_small hv (w := w - 1) (by omega)
    obtain ⟨k1, k2⟩ := kk
    have d9 : ((q.den : Int)).natAbs < 2 ^ 60 := by have := hv.1; omega
    generalize off q w = o0 at *
    generalize off q (w + 1) = o1 at *
    generalize off q (w - 1) = o2 at *
    refine ⟨_, rfl, p, _, 1, .int q.den, rfl, rfl, SqT.of hp3, a1, ?_⟩
    refine ⟨_, rfl, _, rfl, _, _, rfl, rfl, _, rfl, u, _, 1, .int pb, rfl, rfl, q3, a1, _, _, rfl, rfl, wide_mul (a := 181) (b := 100) (show (o1 - o0).natAbs < 2 ^ 181 by omega) h2 (by decide) (by decide) (by decide), _, rfl, u, _, 0, .int pt, rfl, rfl, q3, a0, _, rfl, _, _, rfl, rfl, wide_mul h1 d9 (by decide) (by decide) (by decide), _, _, rfl, rfl, _, rfl, ?_⟩
    refine iteC (d := true) (decide_eq_true k1) (iteT ?_)
    refine ⟨_, rfl, _, rfl, _, _, rfl, rfl, _, rfl, u, _, 1, .int pb, rfl, rfl, q3, a1, _, _, rfl, rfl, wide_mul (a := 181) (b := 100) (show (o2 - o0).natAbs < 2 ^ 181 by omega) h2 (by decide) (by decide) (by decide), _, rfl, u, _, 0, .int pt, rfl, rfl, q3, a0, _, rfl, _, _, rfl, rfl, wide_mul h1 d9 (by decide) (by decide) (by decide), _, _, rfl, rfl, _, _, rfl, rfl, ?_⟩
    have e : decide (0 - pt * (q.den : Int) ≤ (o2 - o0) * pb) = true := decide_eq_true (by omega)
    show Q (.bl (decide (0 - pt * (q.den : Int) ≤ (o2 - o0) * pb))) H3
    rw [e]
    exact k _ (s1.trans (s2.trans s3))
end
end E1

namespace E1
open PySem PySem.Spec PyProof.Rows L2

theorem FrL.nw {H : Hp} {a w : Addr} {qs : List Rat} {c : Int} (h : FrL H a qs) (hw : WellAt H w c) : a ≠ w := fun e => by
  obtain ⟨vs, h1, h2⟩ := h
  obtain ⟨x, y, z, h3, _⟩ := hw
  rw [e, h3] at h1
  cases h1
  cases hq : qs with
  | nil => rw [hq] at h2; cases h2
  | cons q qs' => rw [hq] at h2; cases h2
theorem FrL.well {H H' : Hp} {w a : Addr} {c : Int} {qs : List Rat} (h : FrL H a qs) (s : SameBut w H H') (hw : WellAt H w c) : FrL H' a qs := by
  have n := h.nw hw
  obtain ⟨vs, e, r⟩ := h
  obtain ⟨_, _, _, e2, _⟩ := hw
  exact ⟨vs, s _ _ n e, PrsAt.but r s e2⟩
theorem FrL.dp {K : PySem.W.Frag} {H : Hp} {a : Addr} {qs : List Rat} (h : FrL H a qs) : Dp K H (.ref a) (.list (qs.map frD)) := by
  obtain ⟨vs, e, r⟩ := h
  exact .lst (SqL.of e) (FrsAt.dp r)
theorem off_dn {q : Rat} {w m : Int} (h1 : 1 ≤ m) (h2 : m ≤ 4) : m * (off q (w - 1) - off q w) ≤ off q (w - m) - off q w := by
  have d0 := den_ge q
  have e1 : q.num - (w - 1) * (q.den : Int) = q.num - w * (q.den : Int) + (q.den : Int) := by grind
  have e2 : q.num - (w - m) * (q.den : Int) = q.num - w * (q.den : Int) + m * (q.den : Int) := by grind
  unfold off
  rw [e1, e2]
  generalize q.num - w * (q.den : Int) = a at *
  generalize (q.den : Int) = d at *
  unfold absI
  rcases (by omega : m = 1 ∨ m = 2 ∨ m = 3 ∨ m = 4) with rfl | rfl | rfl | rfl <;> (repeat' split) <;> omega
theorem off_up {q : Rat} {w m : Int} (h1 : 1 ≤ m) (h2 : m ≤ 4) : m * (off q (w + 1) - off q w) ≤ off q (w + m) - off q w := by
  have d0 := den_ge q
  have e1 : q.num - (w + 1) * (q.den : Int) = q.num - w * (q.den : Int) - (q.den : Int) := by grind
  have e2 : q.num - (w + m) * (q.den : Int) = q.num - w * (q.den : Int) - m * (q.den : Int) := by grind
  unfold off
  rw [e1, e2]
  generalize q.num - w * (q.den : Int) = a at *
  generalize (q.den : Int) = d at *
  unfold absI
  rcases (by omega : m = 1 ∨ m = 2 ∨ m = 3 ∨ m = 4) with rfl | rfl | rfl | rfl <;> (repeat' split) <;> omega
theorem no_better {q r : Rat} {w v pt pb m : Int} (p0 : 0 < pb) (h : Kept q w pt pb) (g : Kept r v pt pb) (h1 : 1 ≤ m) (h2 : m ≤ 4) : 0 ≤ (off q (w - m) - off q w) * (r.den : Int) + (off r (v + m) - off r v) * (q.den : Int) := by
  have a1 := off_dn (q := q) (w := w) h1 h2
  have a2 := off_up (q := r) (w := v) h1 h2
  obtain ⟨-, k1⟩ := h
  obtain ⟨k2, -⟩ := g
  have d1 := den_ge q
  have d2 := den_ge r
  generalize (q.den : Int) = d at *
  generalize (r.den : Int) = e at *
  generalize off q (w - m) - off q w = X at *
  generalize off q (w - 1) - off q w = A at *
  generalize off r (v + m) - off r v = Y at *
  generalize off r (v + 1) - off r v = B at *
  have z1 : 0 ≤ A * e + B * d := by
    refine Int.le_of_mul_le_mul_right (a := pb) ?_ p0
    have u1 := Int.mul_le_mul_of_nonneg_right k1 (Int.le_of_lt d2)
    have u2 := Int.mul_le_mul_of_nonneg_right k2 (Int.le_of_lt d1)
    have e1 : (A * e + B * d) * pb = A * pb * e + B * pb * d := by grind
    have e2 : -(pt * d) * e = -(pt * e * d) := by grind
    rw [e1, Int.zero_mul]
    rw [e2] at u1
    omega
  have z2 := Int.mul_le_mul_of_nonneg_right a1 (Int.le_of_lt d2)
  have z3 := Int.mul_le_mul_of_nonneg_right a2 (Int.le_of_lt d1)
  have z4 := Int.mul_nonneg (show 0 ≤ m by omega) z1
  have e1 : m * (A * e + B * d) = m * A * e + m * B * d := by grind
  rw [e1] at z4
  omega
def spNB : Sp := fun vs H Q _ => ∃ (a l w : Addr) (c : Int) (qs : List Rat) (ws : List Int) (pt pb : Int), vs = [.ref a, .ref l, .ref w] ∧ FrL H a qs ∧ H l = some (.lst (ws.map V.int)) ∧ l ≠ w ∧ WellAt H w c ∧ c ≤ 1000 ∧ qs.length ≤ 40 ∧ ws.length = qs.length ∧ 0 < pb ∧ (∀ q ∈ qs, Vl q) ∧ (∀ i, i < qs.length → (ws.getD i 0).natAbs < 2 ^ 100) ∧ (∀ i, i < qs.length → Kept (fn qs i) (ws.getD i 0) pt pb) ∧ ∀ H', SameBut w H H' → WellAt H' w (c + 3) → Q (.bl true) H'
section
variable {P : Program} {w : World} {K : PySem.W.Frag} {mg : Str → Option Value} {base : Heap}
theorem sc__law_no_better : FnScope ["_law_values", "_law_words", "_law_well_here", "_law_at", "_law_to", "_law_many", "_law_one", "_law_two", "_law_top", "_law_other"] ["_law_values", "_law_words", "_law_well_here"] (defScope s__law_no_better) := ⟨rfl, rfl, rfl, by decide +kernel, rfl, by decide +kernel, by decide +kernel⟩
theorem ok__law_no_better {f : Addr} {fd : FuncData} (F : Fun K "_law_no_better" "_law_no_better" s__law_no_better f fd) (z : Zs mg) (c__law_draw : Cal P w K mg base 1 "_law_draw" ["_law_well_here", "_law_many"] spDraw) (c__law_off : Cal P w K mg base 1 "_law_off" ["_law_value_here", "_law_word"] spOffP) : FnOk P w K mg base CX0 2 f fd ["_law_values", "_law_words", "_law_well_here"] spNB := by
  refine F.ok sc__law_no_better (fun vs H Q E h => ?_) (fun cdv A outer s H vs Q E hr h => ?_)
  · obtain ⟨a, l, ww, c, qs, ws, pt, pb, rfl, _⟩ := h
    rfl
  · obtain ⟨a, l, ww, c, qs, ws, pt, pb, rfl, hq, hl, nlw, hw, hc, l40, lw, p0, hv, hb, hk, k⟩ := h
    refine ⟨_, (pss_cons (ps_if (pt_cmpR (op_eqD hr.units) (pv 0) (pe_lst pa_nil) (nomark _)) (pss_one (ps_ret pe_bl)) pss_nil)
      (pss_cons (ps_set (i := 3) sc__law_no_better.nd rfl (.inl rfl) (pe_cal c__law_draw hr (pa_cons (pv 2) (pa_cons (pe_callB call_len_seq (by rfl) z.len PySem.boot_len (pa_cons (pv 0) pa_nil)) pa_nil))))
      (pss_cons (ps_set (i := 4) sc__law_no_better.nd rfl (.inl rfl) (pe_cal c__law_draw hr (pa_cons (pv 2) (pa_cons (pe_callB call_len_seq (by rfl) z.len PySem.boot_len (pa_cons (pv 0) pa_nil)) pa_nil))))
      (pss_cons (ps_set (i := 5) sc__law_no_better.nd rfl (.inl rfl) (pe_op op_add pe_int (pe_cal c__law_draw hr (pa_cons (pv 2) (pa_cons pe_int pa_nil)))))
      (pss_cons (ps_if (pt_cmpR op_eq (pv 3) (pv 4) (nomark _)) (pss_one (ps_ret pe_bl)) pss_nil)
      (pss_cons (ps_set (i := 6) sc__law_no_better.nd rfl (.inl rfl) (pe_ix ix_list (pv 0) (pv 3) (fun _ _ => rfl)))
      (pss_cons (ps_set (i := 7) sc__law_no_better.nd rfl (.inl rfl) (pe_ix ix_list (pv 0) (pv 4) (fun _ _ => rfl)))
      (pss_cons (ps_set (i := 8) sc__law_no_better.nd rfl (.inl rfl) (pe_op op_sub (pe_ix ix_tup (pe_cal c__law_off hr (pa_cons (pv 6) (pa_cons (pe_op op_sub (pe_ix ix_list (pv 1) (pv 3) (fun _ _ => rfl)) (pv 5)) pa_nil))) pe_int (fun _ _ => rfl)) (pe_ix ix_tup (pe_cal c__law_off hr (pa_cons (pv 6) (pa_cons (pe_ix ix_list (pv 1) (pv 3) (fun _ _ => rfl)) pa_nil))) pe_int (fun _ _ => rfl))))
      (pss_cons (ps_set (i := 9) sc__law_no_better.nd rfl (.inl rfl) (pe_op op_sub (pe_ix ix_tup (pe_cal c__law_off hr (pa_cons (pv 7) (pa_cons (pe_op op_add (pe_ix ix_list (pv 1) (pv 4) (fun _ _ => rfl)) (pv 5)) pa_nil))) pe_int (fun _ _ => rfl)) (pe_ix ix_tup (pe_cal c__law_off hr (pa_cons (pv 7) (pa_cons (pe_ix ix_list (pv 1) (pv 4) (fun _ _ => rfl)) pa_nil))) pe_int (fun _ _ => rfl))))
      (pss_one (ps_ret (pe_cmpR op_ge (pe_op op_add (pe_op op_mulW (pv 8) (pe_ix ix_tup (pv 7) pe_int (fun _ _ => rfl))) (pe_op op_mulW (pv 9) (pe_ix ix_tup (pv 6) pe_int (fun _ _ => rfl)))) pe_int (nomark _))))))))))))), ?_⟩
    refine ⟨_, rfl, (by show 0 ≤ sizeLine; decide), fun e0 he0 => ?_⟩
    have s0 := same_new (o := .lst []) he0
    refine ⟨.list (qs.map frD), .list (([] : List Rat).map frD), (hq.same s0).dp, .lst (SqL.of upd_same) .nil, frL_shaped _, frL_shaped _, _, rfl, ?_⟩
    rw [frL_eqv]
    have w0 := hw.same s0
    have q0 := hq.same s0
    have l0 := s0 _ _ hl
    generalize upd H e0 (.lst []) = H0 at s0 w0 q0 l0 ⊢
    refine ite2 (fun c0 => ?_) (fun c0 => ?_)
    · exact k _ (SameBut.of s0) (w0.mono (by omega))
    have n0 : 0 < qs.length := by
      cases qs with
      | nil => exact absurd rfl c0
      | cons _ _ => exact Nat.succ_pos _
    obtain ⟨vs, ev, lv, _⟩ := q0.len
    refine ⟨_, rfl, _, rfl, a, vs, rfl, .inl (SqL.of ev), ww, c, _, rfl, w0, by omega, by omega, Nat.lt_of_le_of_lt (show _ ≤ 40 by omega) (by decide), fun r1 H1 r10 r11 d1 f1 w1 => ?_⟩
    have q1 := q0.well d1 w0
    have l1 := d1 _ _ nlw l0
    obtain ⟨vs1, ev1, lv1, _⟩ := q1.len
    refine ⟨_, rfl, _, rfl, a, vs1, rfl, .inl (SqL.of ev1), ww, c + 1, _, rfl, w1, by omega, by omega, Nat.lt_of_le_of_lt (show _ ≤ 40 by omega) (by decide), fun r2 H2 r20 r21 d2 f2 w2 => ?_⟩
    have q2 := q1.well d2 w1
    have l2 := d2 _ _ nlw l1
    refine ⟨_, rfl, ww, c + 1 + 1, 4, rfl, w2, by omega, by decide, by decide, fun r3 H3 r30 r31 d3 f3 w3 => ⟨_, _, rfl, rfl, ?_⟩⟩
    have q3 := q2.well d3 w2
    have l3 := d3 _ _ nlw l2
    have D3 : SameBut ww H H3 := (SameBut.of s0).trans (d1.trans (d2.trans d3))
    have w3' : WellAt H3 ww (c + 3) := w3.mono (by omega)
    obtain ⟨n1, rfl⟩ := Int.eq_ofNat_of_zero_le r10
    obtain ⟨n2, rfl⟩ := Int.eq_ofNat_of_zero_le r20
    have i1 : n1 < qs.length := by omega
    have i2 : n2 < qs.length := by omega
    refine ⟨_, rfl, _, rfl, rfl, _, rfl, ite2 (fun c1 => ?_) (fun c1 => ?_)⟩
    · exact k _ D3 w3'
    obtain ⟨v3, e3, lv3, hv3⟩ := q3.len
    obtain ⟨p1, hp1, fp1⟩ := FrsAt.fn hv3 i1
    obtain ⟨p2, hp2, fp2⟩ := FrsAt.fn hv3 i2
    have wat : ∀ i, i < qs.length → atI (ws.map V.int) (i : Nat) = some (V.int (ws.getD i 0)) := fun i hi => atI_nat (by
      rw [List.getElem?_map, List.getD_eq_getElem?_getD, List.getElem?_eq_getElem (by omega)]
      rfl)
    have V1 := hv _ (fn_mem i1)
    have V2 := hv _ (fn_mem i2)
    have B1 := hb _ i1
    have B2 := hb _ i2
    have NB := no_better (m := 1 + r3) p0 (hk _ i1) (hk _ i2) (by omega) (by omega)
    have D91 : ((fn qs n1).den : Int).natAbs < 2 ^ 60 := by have := V1.1; omega
    have D92 : ((fn qs n2).den : Int).natAbs < 2 ^ 60 := by have := V2.1; omega
    refine ⟨_, rfl, _, rfl, a, _, _, .ref p1, rfl, rfl, SqL.of e3, atI_nat hp1, ?_⟩
    refine ⟨_, rfl, _, rfl, a, _, _, .ref p2, rfl, rfl, SqL.of e3, atI_nat hp2, ?_⟩
    generalize fn qs n1 = x1 at *
    generalize fn qs n2 = x2 at *
    have wa1 := wat _ i1
    have wa2 := wat _ i2
    generalize ws.getD n1 0 = y1 at *
    generalize ws.getD n2 0 = y2 at *
    have s10 := off_small V1 (w := y1) (by omega)
    have s11 := off_small V1 (w := y1 - (1 + r3)) (by omega)
    have s20 := off_small V2 (w := y2) (by omega)
    have s21 := off_small V2 (w := y2 + (1 + r3)) (by omega)
    -- the first
    refine ⟨_, rfl, _, rfl, _, rfl, l, _, _, .int y1, rfl, rfl, SqL.of l3, wa1, _, rfl, _, _, rfl, rfl, p1, x1, y1 - (1 + r3), rfl, fp1, up V1.1 (by decide), Nat.lt_of_lt_of_le (show (y1 - (1 + r3)).natAbs < 2 ^ 101 by omega) (Nat.pow_le_pow_right (by decide) (by decide)), fun u1 hu1 => ?_⟩
    have t1 := same_new (o := .tup [.int (off x1 (y1 - (1 + r3))), .int (x1.den : Int)]) hu1
    have g1 : (upd H3 u1 (.tup [.int (off x1 (y1 - (1 + r3))), .int (x1.den : Int)])) u1 = some (.tup [.int (off x1 (y1 - (1 + r3))), .int (x1.den : Int)]) := upd_same
    generalize upd H3 u1 _ = H4 at t1 g1 ⊢
    refine ⟨u1, _, 0, _, rfl, rfl, SqT.of g1, a0, ?_⟩
    refine ⟨_, rfl, _, rfl, _, rfl, l, _, _, .int y1, rfl, rfl, SqL.of (t1 _ _ l3), wa1, p1, x1, y1, rfl, t1 _ _ fp1, up V1.1 (by decide), up B1 (by decide), fun u2 hu2 => ?_⟩
    have t2 := same_new (o := .tup [.int (off x1 y1), .int (x1.den : Int)]) hu2
    have g2 : (upd H4 u2 (.tup [.int (off x1 y1), .int (x1.den : Int)])) u2 = some (.tup [.int (off x1 y1), .int (x1.den : Int)]) := upd_same
    generalize upd H4 u2 _ = H5 at t2 g2 ⊢
    refine ⟨u2, _, 0, _, rfl, rfl, SqT.of g2, a0, _, _, rfl, rfl, ?_⟩
    have T2 := t1.trans t2
    -- the second
    refine ⟨_, rfl, _, rfl, _, rfl, l, _, _, .int y2, rfl, rfl, SqL.of (T2 _ _ l3), wa2, _, rfl, _, _, rfl, rfl, p2, x2, y2 + (1 + r3), rfl, T2 _ _ fp2, up V2.1 (by decide), Nat.lt_of_lt_of_le (show (y2 + (1 + r3)).natAbs < 2 ^ 101 by omega) (Nat.pow_le_pow_right (by decide) (by decide)), fun u3 hu3 => ?_⟩
    have t3 := same_new (o := .tup [.int (off x2 (y2 + (1 + r3))), .int (x2.den : Int)]) hu3
    have g3 : (upd H5 u3 (.tup [.int (off x2 (y2 + (1 + r3))), .int (x2.den : Int)])) u3 = some (.tup [.int (off x2 (y2 + (1 + r3))), .int (x2.den : Int)]) := upd_same
    generalize upd H5 u3 _ = H6 at t3 g3 ⊢
    have T3 := T2.trans t3
    refine ⟨u3, _, 0, _, rfl, rfl, SqT.of g3, a0, ?_⟩
    refine ⟨_, rfl, _, rfl, _, rfl, l, _, _, .int y2, rfl, rfl, SqL.of (T3 _ _ l3), wa2, p2, x2, y2, rfl, T3 _ _ fp2, up V2.1 (by decide), up B2 (by decide), fun u4 hu4 => ?_⟩
    have t4 := same_new (o := .tup [.int (off x2 y2), .int (x2.den : Int)]) hu4
    have g4 : (upd H6 u4 (.tup [.int (off x2 y2), .int (x2.den : Int)])) u4 = some (.tup [.int (off x2 y2), .int (x2.den : Int)]) := upd_same
    generalize upd H6 u4 _ = H7 at t4 g4 ⊢
    have T4 := T3.trans t4
    refine ⟨u4, _, 0, _, rfl, rfl, SqT.of g4, a0, _, _, rfl, rfl, ?_⟩
    generalize off x1 (y1 - (1 + r3)) = O1 at *
    generalize off x1 y1 = O2 at *
    generalize off x2 (y2 + (1 + r3)) = O3 at *
    generalize off x2 y2 = O4 at *
    refine ⟨_, rfl, _, rfl, p2, _, 1, .int x2.den, rfl, rfl, SqT.of (T4 _ _ fp2), a1, _, _, rfl, rfl, wide_mul (a := 181) (b := 60) (show (O1 - O2).natAbs < 2 ^ 181 by omega) D92 (by decide) (by decide) (by decide), _, rfl, _, rfl, p1, _, 1, .int x1.den, rfl, rfl, SqT.of (T4 _ _ fp1), a1, _, _, rfl, rfl, wide_mul (a := 181) (b := 60) (show (O3 - O4).natAbs < 2 ^ 181 by omega) D91 (by decide) (by decide) (by decide), _, _, rfl, rfl, _, _, rfl, rfl, ?_⟩
    have e : decide (0 ≤ (O1 - O2) * (x2.den : Int) + (O3 - O4) * (x1.den : Int)) = true := decide_eq_true NB
    show Q (.bl (decide (0 ≤ (O1 - O2) * (x2.den : Int) + (O3 - O4) * (x1.den : Int)))) H7
    rw [e]
    exact k _ (D3.trans (SameBut.of T4)) (w3'.same T4)
end
end E1

namespace E1
open PySem PySem.Spec PyProof.Rows L2

theorem no_true : ∀ n : Nat, inV (.bl true) (List.replicate n (V.bl false)) = false
  | 0 => rfl
  | n + 1 => by
    rw [List.replicate_succ]
    show (eqV (.bl false) (.bl true) || inV (.bl true) (List.replicate n (V.bl false))) = false
    rw [no_true n]
    rfl
theorem FrL.copy {H : Hp} {a l : Addr} {qs : List Rat} {vs : List V} (e : H a = some (.lst vs)) (h : FrL H a qs) (hl : H l = none) : FrL (upd H l (.lst vs)) l qs := by
  obtain ⟨ws, e2, r⟩ := h
  rw [e] at e2
  cases e2
  exact ⟨vs, upd_same, PrsAt.same r (same_new hl)⟩
theorem tyX_tup {K : PySem.W.Frag} {H : Hp} {u : Addr} {xs : List V} (h : SqT K H u xs) : TyX K H (.ref u) (.type "tuple") := by
  rcases h with (h | ⟨o, h⟩) | ⟨o, its, n, h1, h2, _⟩
  · exact .base (.tup h)
  · exact .fTuple h
  · exact .kTuple h1 h2
def spRight (K : PySem.W.Frag) (Pb : Addr) : Sp := fun vs H Q _ => ∃ (a : Addr) (qs : List Rat) (D : Int) (total : Int), vs = [.ref a, .int total] ∧ FrL H a qs ∧ qs.length ≤ 40 ∧ Btm D (qs.map pr) ∧ (∀ q ∈ qs, Vl q) ∧ -100 ≤ total - sumF qs ∧ total - sumF qs ≤ 100 ∧ (qs = [] → total = 0) ∧ LamX.Tabs (TT Pb) H ∧
  ∀ (l : Addr) (ws : List Int) (pt pb : Int) H', LamX.ExtN H H' → LamX.Tabs (TT Pb) H' → H' l = some (.lst (ws.map V.int)) → H l = none → ws.length = qs.length → 0 < pb → (∀ i, i < qs.length → Kept (fn qs i) (ws.getD i 0) pt pb ∧ (ws.getD i 0).natAbs < 2 ^ 100) → Q (.ref l) H'
section
variable {P : Program} {w : World} {K : PySem.W.Frag} {mg : Str → Option Value} {base : Heap}
theorem sc__law_right : FnScope ["_law_values", "_law_sum_due", "_law_handed", "_law_found", "_law_words", "_law_price", "_law_one", "_law_value_here", "_law_word"] ["_law_values", "_law_sum_due"] (defScope s__law_right) := ⟨rfl, rfl, rfl, by decide +kernel, rfl, by decide +kernel, by decide +kernel⟩
theorem ok__law_right {f : Addr} {fd : FuncData} {Pb : Addr} (F : Fun K "_law_right" "_law_right" s__law_right f fd) (z : Zs mg) (c_fitted : Cal P w K mg base 5 "fitted" ["values", "total"] (spFit K Pb)) (c__law_low : Cal P w K mg base 1 "_law_low" ["_law_top", "_law_bottom"] spLowP) (c__law_kept : Cal P w K mg base 2 "_law_kept" ["_law_value_here", "_law_word", "_law_price"] (spKept K)) : FnOk P w K mg base CX0 6 f fd ["_law_values", "_law_sum_due"] (spRight K Pb) := by
  refine F.ok sc__law_right (fun vs H Q E h => ?_) (fun cdv A outer s H vs Q E hr h => ?_)
  · obtain ⟨a, qs, D, total, rfl, _⟩ := h
    rfl
  · obtain ⟨a, qs, D, total, rfl, hq, l40, bt, hv, t0, t1, hn, hT, k⟩ := h
    refine ⟨_, (pss_cons (ps_set (i := 2) sc__law_right.nd rfl (.inl rfl) (pe_callTy call_list_of (by rfl) z.list (by decide +kernel) (pa_cons (pv 0) pa_nil)))
      (pss_cons (ps_set (i := 3) sc__law_right.nd rfl (.inl rfl) (pe_cal c_fitted hr (pa_cons (pv 2) (pa_cons (pv 1) pa_nil))))
      (pss_cons (ps_if (PW.pt (pw_or (pt_not (pt_val (pe_callB call_isi (by rfl) z.isinstance (by decide +kernel) (pa_cons (pv 3) (pa_cons (pe_bltn (v := .ty "tuple") (by rfl) z.tuple (by decide +kernel) rfl) pa_nil))))) (pw_or (pt_cmpR op_ne (pe_callB call_len_seq (by rfl) z.len PySem.boot_len (pa_cons (pv 3) pa_nil)) pe_int (nomark _)) (pw_or (pt_cmpR (op_neD hr.units) (pv 2) (pv 0) (nomark _)) (pw_or1 (pt_not (pt_val (pe_callB call_isi (by rfl) z.isinstance (by decide +kernel) (pa_cons (pe_ix ix_tup (pv 3) pe_int (fun _ _ => rfl)) (pa_cons (pe_bltn (v := .ty "list") (by rfl) z.list (by decide +kernel) rfl) pa_nil)))))))))) (pss_one (ps_ret pe_non)) pss_nil)
      (pss_cons (ps_asg (pv 3) (pg_tup (by rfl) (pgs_cons (pg_name (i := 4) sc__law_right.nd rfl (.inl rfl)) (pgs_cons (pg_name (i := 5) sc__law_right.nd rfl (.inr rfl)) pgs_nil))))
      (pss_cons (ps_if (PW.pt (pw_or (pt_cmpR op_ne (pe_callB call_len_seq (by rfl) z.len PySem.boot_len (pa_cons (pv 4) pa_nil)) (pe_callB call_len_seq (by rfl) z.len PySem.boot_len (pa_cons (pv 0) pa_nil)) (nomark _)) (pw_or (pt_not (pt_val (pe_callB call_isi (by rfl) z.isinstance (by decide +kernel) (pa_cons (pv 5) (pa_cons (pe_bltn (v := .ty "tuple") (by rfl) z.tuple (by decide +kernel) rfl) pa_nil))))) (pw_or1 (pt_cmpR op_ne (pe_callB call_len_seq (by rfl) z.len PySem.boot_len (pa_cons (pv 5) pa_nil)) pe_int (nomark _)))))) (pss_one (ps_ret pe_non)) pss_nil)
      (pss_cons (ps_if (pt_cmpR op_in_seq pe_bl (pe_lc (own := [("_law_one", 6)]) (g := gName 6) (tt := tYes) (te := (tOrV (tCB (rIsi K) (tCons (tVar 6) (tCons (tC (.ty "bool")) tNil))) (tNotV (tCB (rIsi K) (tCons (tVar 6) (tCons (tC (.ty "int")) tNil)))))) (by rfl) sc__law_right.nd (pi_list (pe_op op_cat (pv 4) (pe_callTy call_list_of (by rfl) z.list (by decide +kernel) (pa_cons (pv 5) pa_nil)))) (blkOk_by (own := [("_law_one", 6)]) (N := ["_law_values", "_law_sum_due", "_law_handed", "_law_found", "_law_words", "_law_price", "_law_one", "_law_value_here", "_law_word"]) (sc := defScope s__law_right) (by decide +kernel)) (fun _ _ _ _ _ => by exact (pg_name (i := 6) sc__law_right.nd rfl (.inl rfl))) (fun _ _ _ _ _ => by exact pts_nil) (fun _ _ _ _ _ => by exact (pe_or (pe_callB call_isi (by rfl) z.isinstance (by decide +kernel) (pa_cons (pv 6) (pa_cons (pe_bltn (v := .ty "bool") (by rfl) z.bool (by decide +kernel) rfl) pa_nil))) (pe_one (pe_not (pe_callB call_isi (by rfl) z.isinstance (by decide +kernel) (pa_cons (pv 6) (pa_cons (pe_bltn (v := .ty "int") (by rfl) z.int (by decide +kernel) rfl) pa_nil)))))))) (by rfl)) (pss_one (ps_ret pe_non)) pss_nil)
      (pss_cons (ps_if (PW.pt (pw_or (pt_cmpR op_ne (pe_callB (cr_sum rfl) (by rfl) z.sum (by decide +kernel) (pa_cons (pv 4) pa_nil)) (pv 1) (nomark _)) (pw_or (pt_cmpR op_lt (pe_ix ix_tup (pv 5) pe_int (fun _ _ => rfl)) pe_int (nomark _)) (pw_or1 (pt_cmpR (op_neD hr.units) (pe_cal c__law_low hr (pa_cons (pe_ix ix_tup (pv 5) pe_int (fun _ _ => rfl)) (pa_cons (pe_ix ix_tup (pv 5) pe_int (fun _ _ => rfl)) pa_nil))) (pv 5) (nomark _)))))) (pss_one (ps_ret pe_non)) pss_nil)
      (pss_cons (ps_if (pt_not (pt_val (pe_callB (cr_all rfl) (by rfl) z.all (by decide +kernel) (pa_cons (pe_lc (own := [("_law_value_here", 7), ("_law_word", 8)]) (g := gTup K 2 (gCons (gName 7) (gCons (gName 8) gNil))) (tt := tYes) (te := (tCall (spKept K) [] E0 (tCons (tVar 7) (tCons (tVar 8) (tCons (tVar 5) tNil))))) (by rfl) sc__law_right.nd (RZ.pi_zipA (by rfl) z.zip (pa_cons (pv 0) (pa_cons (pv 4) pa_nil))) (blkOk_by (own := [("_law_value_here", 7), ("_law_word", 8)]) (N := ["_law_values", "_law_sum_due", "_law_handed", "_law_found", "_law_words", "_law_price", "_law_one", "_law_value_here", "_law_word"]) (sc := defScope s__law_right) (by decide +kernel)) (fun _ _ _ _ _ => by exact (pg_tup (by rfl) (pgs_cons (pg_name (i := 7) sc__law_right.nd rfl (.inl rfl)) (pgs_cons (pg_name (i := 8) sc__law_right.nd rfl (.inl rfl)) pgs_nil)))) (fun _ _ _ _ _ => by exact pts_nil) (fun _ _ _ _ _ => by exact (pe_cal c__law_kept hr (pa_cons (pv 7) (pa_cons (pv 8) (pa_cons (pv 5) pa_nil)))))) pa_nil)))) (pss_one (ps_ret pe_non)) pss_nil)
      (pss_one (ps_ret (pv 4))))))))))), ?_⟩
    obtain ⟨vs, ev, lv, hvs⟩ := hq.len
    refine ⟨_, rfl, a, vs, rfl, .inl (SqL.of ev), fun h0 hh0 => ?_⟩
    have s0 := same_new (o := .lst vs) hh0
    have C0 := FrL.copy ev hq hh0
    have q0 := hq.same s0
    have T0 := hT.ext s0
    generalize hU : upd H h0 (.lst vs) = H0 at s0 C0 q0 T0 ⊢
    clear hU
    refine ⟨_, rfl, _, rfl, h0, qs, D, total, rfl, C0, l40, bt, fun q hq => ⟨up (hv q hq).1 (by decide), up (hv q hq).2 (by decide)⟩, t0, t1, hn, T0, fun Tp l u ws π H1 e1 T1 hTp hl hl0 hu lw sw psz hk => ?_⟩
    have nl : H l = none := s0.free hl0
    have E1_ : LamX.ExtN H H1 := (LamX.ExtN.of s0).trans e1
    have q1 := frL_ext q0 e1
    have C1 := frL_ext C0 e1
    refine ⟨_, rfl, _, .ty "tuple", _, _, true, rfl, .ty _, .base (.tup hTp), kit_ty (by decide +kernel), _, rfl, iteF ?_⟩
    refine ⟨_, rfl, Tp, _, rfl, .inr (SqT.of hTp), rfl, _, rfl, iteN (fun c => absurd rfl c) (fun _ => ?_)⟩
    refine ⟨_, rfl, _, rfl, _, _, C1.dp, q1.dp, frL_shaped _, frL_shaped _, _, rfl, ?_⟩
    rw [frL_eqv, decide_eq_true rfl]
    refine iteF ?_
    refine ⟨_, rfl, Tp, _, 0, .ref l, rfl, rfl, SqT.of hTp, a0, _, .ty "list", _, _, true, rfl, .ty _, .base (.lst hl), kit_ty (by decide +kernel), _, rfl, iteF ?_⟩
    refine ⟨_, rfl, Tp, _, rfl, SqT.of hTp, rfl, _, _, rfl, _, _, rfl, rfl, ?_⟩
    obtain ⟨vs1, ev1, lv1, hv1⟩ := q1.len
    have ew : ((ws.map V.int).length : Int) = (vs1.length : Int) := by rw [List.length_map]; omega
    refine ⟨_, rfl, l, _, rfl, .inl (SqL.of hl), _, rfl, a, _, rfl, .inl (SqL.of ev1), rfl, _, rfl, iteN (fun c => absurd (congrArg V.int ew) c) (fun _ => ?_)⟩
    refine ⟨_, rfl, _, .ty "tuple", _, _, true, rfl, .ty _, tyX_tup hu, kit_ty (by decide +kernel), _, rfl, iteF ?_⟩
    refine ⟨_, rfl, u, _, rfl, .inr hu, rfl, _, rfl, iteN (fun c => absurd rfl c) (fun _ => ?_)⟩
    have wb : ∀ i, i < qs.length → (ws.getD i 0).natAbs < 2 ^ 100 := fun i hi => by
      obtain ⟨_, h2, h3⟩ := hk i hi
      have := (hv _ (fn_mem hi)).2
      have : (fl (fn qs i)).natAbs ≤ (fn qs i).num.natAbs := Int.natAbs_ediv_le_natAbs _ _
      omega
    have pd : ((π.den : Int)).natAbs < 2 ^ 100 := by have := psz.2; omega
    -- no word is a truth value
    refine ⟨_, rfl, _, rfl, u, _, rfl, .inr hu, fun pl hpl => ?_⟩
    have s2 := same_new (o := .lst [.int π.num, .int (π.den : Int)]) hpl
    have gl : (upd H1 pl (.lst [.int π.num, .int (π.den : Int)])) pl = some (.lst ([π.num, (π.den : Int)].map V.int)) := upd_same
    generalize hU : upd H1 pl _ = H2 at s2 gl ⊢
    clear hU
    refine ⟨l, pl, _, _, rfl, rfl, s2 _ _ hl, gl, Nat.le_of_lt (small1000 (by show (ws.map V.int).length + 2 ≤ 1000; rw [List.length_map]; omega)), fun cl hcl => ?_⟩
    rw [← List.map_append]
    have s3 := same_new (o := .lst ((ws ++ [π.num, (π.den : Int)]).map V.int)) hcl
    have gc : (upd H2 cl (.lst ((ws ++ [π.num, (π.den : Int)]).map V.int))) cl = some (.lst ((ws ++ [π.num, (π.den : Int)]).map V.int)) := upd_same
    generalize hU : upd H2 cl _ = H3 at s3 gc ⊢
    clear hU
    have S3 := s2.trans s3
    have lc3 : ((ws ++ [π.num, (π.den : Int)]).map V.int).length ≤ 42 := by
      rw [List.length_map, List.length_append]
      show ws.length + 2 ≤ 42
      omega
    refine ⟨cl, rfl, ⟨_, SqL.of gc⟩, fun Dd hDd => lc_list (K := K) (a := cl) (xs := (ws ++ [π.num, (π.den : Int)]).map V.int) (fun i X => Same H3 X ∧ X Dd = some (.lst (List.replicate i (V.bl false)))) ⟨same_new hDd, upd_same⟩ (fun i X _ hP => SqL.of (hP.1 _ _ gc)) (fun i x X hx hP => ?_) (fun X hP => ?_)⟩
    · obtain ⟨sX, hacc⟩ := hP
      have li := (List.getElem?_eq_some_iff.mp hx).1
      rw [List.getElem?_map] at hx
      obtain ⟨n, _, rfl⟩ := Option.map_eq_some_iff.mp hx
      refine ⟨rfl, _, rfl, _, .ty "bool", _, _, false, rfl, .ty _, .base (.int n), kit_ty (by decide +kernel), _, rfl, iteF ⟨_, rfl, _, .ty "int", _, _, true, rfl, .ty _, .base (.int n), kit_ty (by decide +kernel), _, rfl, _, hacc, ?_, fun b o e => ?_, ?_⟩⟩
      · rw [List.length_replicate]
        exact small1000 (by omega)
      · rw [upd_ne (ne_of_none e hDd)]
        exact sX _ _ e
      · rw [upd_same, List.replicate_succ']
        rfl
    obtain ⟨sX, hacc⟩ := hP
    refine ⟨Dd, _, rfl, .inl (SqL.of hacc), rfl, by rw [List.all_replicate]; simp [flatV], ?_⟩
    show ∃ c, V.bl (inV (.bl true) (List.replicate _ (V.bl false))) = .bl c ∧ _
    rw [no_true]
    refine ⟨_, rfl, iteF ?_⟩
    have SX := S3.trans sX
    have huX : SqT K X u [.int π.num, .int (π.den : Int)] := sqT_ext hu (LamX.ExtN.of SX)
    have lX := SX _ _ hl
    refine ⟨_, rfl, l, ws, rfl, SqL.of lX, _, rfl, rfl, _, rfl, iteN (fun c => absurd (congrArg V.int sw) c) (fun _ => ?_)⟩
    have pd0 := den_ge π
    refine ⟨_, rfl, u, _, 1, .int π.den, rfl, rfl, huX, a1, _, _, rfl, rfl, _, rfl, iteC (d := false) (decide_eq_false (by omega)) (iteF ?_)⟩
    refine ⟨_, rfl, u, _, 0, .int π.num, rfl, rfl, huX, a0, _, rfl, u, _, 1, .int π.den, rfl, rfl, huX, a1, _, _, rfl, pd0, up pd (by decide), fun p9 hp9 => ?_⟩
    have s9 := same_new (o := .tup [.int (lowT π.num (π.den : Int)), .int (lowB π.num (π.den : Int))]) hp9
    have f9 : Fr (upd X p9 (.tup [.int (lowT π.num (π.den : Int)), .int (lowB π.num (π.den : Int))])) p9 π := Fr.low (den_ne π) (div_is (den_ne π) (q_eq π)) upd_same
    generalize hU : upd X p9 _ = H4 at s9 f9 ⊢
    clear hU
    have S9 := SX.trans s9
    have hu9 : SqT K H4 u [.int π.num, .int (π.den : Int)] := sqT_ext hu (LamX.ExtN.of S9)
    refine ⟨_, rfl, frD π, frD π, f9.dp, .tup hu9 (.cons (.int _) (.cons (.int _) .nil)), frD_shaped _, frD_shaped _, _, rfl, ?_⟩
    rw [frD_eqv, decide_eq_true rfl]
    refine iteF ?_
    -- the words are all kept
    have q9 := q1.same S9
    obtain ⟨v9, e9, lv9, hv9⟩ := q9.len
    have l9 := S9 _ _ hl
    refine ⟨_, rfl, _, rfl, a, l, v9, ws.map V.int, rfl, .inl ⟨SqL.of e9, SqL.of l9, fun Dk hDk => ?_⟩⟩
    refine lc_it (walk_zip (K := K) (a := a) (b := l) (xs := v9) (ys := ws.map V.int) rfl) (fun i G => Same H4 G ∧ G Dk = some (.lst (List.replicate i (V.bl true)))) ⟨same_new hDk, upd_same⟩ (fun i G _ hP => ⟨SqL.of (hP.1 _ _ e9), SqL.of (hP.1 _ _ l9)⟩) (fun i x G G2 hi hP hY => ?_) (fun G hP => ?_)
    · obtain ⟨sG, hacG⟩ := hP
      obtain ⟨Tz, x1, x2, rfl, nT, rfl, y1, y2⟩ := hY
      obtain ⟨p, q, rfl, hqx, hp⟩ := FrsAt.get hv9 y1
      replace y2 : (ws.map V.int)[i]? = some x2 := y2
      rw [List.getElem?_map] at y2
      obtain ⟨n, hn1, rfl⟩ := Option.map_eq_some_iff.mp y2
      have li := (List.getElem?_eq_some_iff.mp hqx).1
      have eq1 : fn qs i = q := fn_lt hqx
      have en : ws.getD i 0 = n := by
        rw [List.getD_eq_getElem?_getD, hn1]
        rfl
      have sN := same_new (o := .tup [.ref p, .int n]) nT
      have SG := S9.trans (sG.trans sN)
      obtain ⟨k1, _⟩ := hk i li
      have k2 := wb i li
      rw [eq1, en] at k1
      rw [en] at k2
      refine ⟨Tz, [.ref p, .int n], rfl, SqT.of upd_same, rfl, _, _, rfl, _, _, rfl, rfl, rfl, ?_⟩
      refine ⟨_, rfl, _, rfl, _, rfl, p, u, q, n, π.num, π.den, rfl, sN _ _ (sG _ _ hp), hv q (List.mem_of_getElem? hqx), k2, sqT_ext hu (LamX.ExtN.of SG), psz.1, pd, k1, fun G3 s3 => ?_⟩
      refine ⟨_, s3 _ _ (sN _ _ hacG), ?_, fun b o e => ?_, ?_⟩
      · rw [List.length_replicate]
        exact small1000 (by omega)
      · rw [upd_ne (ne_of_none e hDk)]
        exact s3 _ _ (sN _ _ (sG _ _ e))
      · rw [upd_same, List.replicate_succ']
    obtain ⟨sG, hacG⟩ := hP
    refine ⟨Dk, List.replicate _ true, rfl, SqL.of (by rw [List.map_replicate]; exact hacG), ?_⟩
    rw [rep_all]
    have SG := S9.trans sG
    refine ⟨_, rfl, iteF ⟨_, rfl, ?_⟩⟩
    exact k l ws π.num (π.den : Int) _ (E1_.trans (LamX.ExtN.of SG)) (T1.ext SG) (SG _ _ hl) nl lw pd0 (fun i hi => ⟨(hk i hi).1, wb i hi⟩)
end
end E1

namespace E1
open PySem PySem.Spec PyProof.Rows L2

def spLaw (K : PySem.W.Frag) (Pb : Addr) : Sp := fun vs H Q _ => ∃ (a : Addr) (ns : List Int), vs = [.ref a] ∧ SqL K H a (ns.map V.int) ∧ ns.length ≤ 63 ∧ LamX.Tabs (TT Pb) H ∧ ∀ H', Q (.bl true) H'
theorem cut_ints (ns : List Int) (lo hi : Option Int) : ∃ cs : List Int, cutV (ns.map V.int) lo hi = cs.map V.int := by
  unfold cutV
  rw [← List.map_drop, ← List.map_take]
  exact ⟨_, rfl⟩
theorem cut40 (ns : List V) : (cutV ns (some 1) (some 41)).length ≤ 40 := by
  unfold cutV
  have e1 : HT.sIx ns.length 0 (some 1) = min 1 ns.length := HT.sIx_nat _ _ 1
  have e2 : HT.sIx ns.length ns.length (some 41) = min 41 ns.length := HT.sIx_nat _ _ 41
  rw [e1, e2, List.length_take, List.length_drop]
  omega
theorem tabs_w {T : List (Addr × Str)} {H H' : Hp} {w : Addr} {c : Int} (t : LamX.Tabs T H) (s : SameBut w H H') (hw : WellAt H w c) : LamX.Tabs T H' := by
  obtain ⟨_, _, _, e, _⟩ := hw
  exact tabs_by t s e
theorem well_ext {H H' : Hp} {w : Addr} {c : Int} (h : WellAt H w c) (e : LamX.ExtN H H') : WellAt H' w c := by
  obtain ⟨x, y, z, h1, h2⟩ := h
  exact ⟨x, y, z, e _ _ h1 (fun _ z => nomatch z), h2⟩
theorem vl_btm : ∀ qs : List Rat, (∀ q ∈ qs, Vl q) → ∃ D : Int, D ≠ 0 ∧ D.natAbs ≤ (2 ^ 60) ^ qs.length ∧ ∀ q ∈ qs, (q.den : Int) ∣ D
  | [], _ => ⟨1, by decide, Nat.le_refl _, fun q h => absurd h List.not_mem_nil⟩
  | q :: qs, h => by
    obtain ⟨D, d0, dl, hd⟩ := vl_btm qs fun x hx => h x (List.mem_cons_of_mem _ hx)
    refine ⟨D * (q.den : Int), Int.mul_ne_zero d0 (den_ne q), ?_, fun x hx => ?_⟩
    · rw [Int.natAbs_mul, List.length_cons, Nat.pow_succ]
      have := (h q List.mem_cons_self).1
      exact Nat.mul_le_mul dl (by omega)
    · rcases List.mem_cons.mp hx with rfl | hx
      · exact ⟨D, Int.mul_comm _ _⟩
      · exact Int.dvd_trans (hd x hx) ⟨_, rfl⟩
theorem vl_ok {qs : List Rat} (h : ∀ q ∈ qs, Vl q) (l : qs.length ≤ 40) : ∃ D, Btm D (qs.map pr) := by
  obtain ⟨D, d0, dl, hd⟩ := vl_btm qs h
  refine ⟨D, d0, ?_, fun p hp => ?_⟩
  · refine Nat.lt_of_le_of_lt dl ?_
    rw [← Nat.pow_mul]
    exact Nat.pow_lt_pow_right (by decide) (by omega)
  · obtain ⟨q, hq, rfl⟩ := List.mem_map.mp hp
    exact ⟨den_ge q, hd q hq, up (h q hq).2 (by decide)⟩
section
variable {P : Program} {w : World} {K : PySem.W.Frag} {mg : Str → Option Value} {base : Heap}
theorem sc_law : FnScope ["_law_script", "_law_well_here", "_law_distant", "_law_twice", "_law_away", "_law_values", "_law_k", "_law_sum_due", "_law_words", "_law_cell", "_law_value_here"] ["_law_script"] (defScope s_law) := ⟨rfl, rfl, rfl, by decide +kernel, rfl, by decide +kernel, by decide +kernel⟩
theorem ok_law {f : Addr} {fd : FuncData} {Pb : Addr} (F : Fun K "law" "law" s_law f fd) (z : Zs mg) (c__law_cell_at : Cal P w K mg base 1 "_law_cell_at" ["_law_script", "_law_k"] (spCell K)) (c__law_well : Cal P w K mg base 1 "_law_well" ["_law_cell"] spWell) (c__law_draw : Cal P w K mg base 1 "_law_draw" ["_law_well_here", "_law_many"] spDraw) (c__law_value : Cal P w K mg base 2 "_law_value" ["_law_well_here"] spVal) (c__law_no_better : Cal P w K mg base 2 "_law_no_better" ["_law_values", "_law_words", "_law_well_here"] spNB) (c__law_right : Cal P w K mg base 6 "_law_right" ["_law_values", "_law_sum_due"] (spRight K Pb)) : FnOk P w K mg base CX0 7 f fd ["_law_script"] (spLaw K Pb) := by
  refine F.ok sc_law (fun vs H Q E h => ?_) (fun cdv A outer s H vs Q E hr h => ?_)
  · obtain ⟨a, ns, rfl, _⟩ := h
    rfl
  · obtain ⟨a, ns, rfl, hS, hn, hT, q⟩ := h
    refine ⟨_, (pss_cons (ps_set (i := 1) sc_law.nd rfl (.inl rfl) (pe_cal c__law_well hr (pa_cons (pe_cal c__law_cell_at hr (pa_cons (pv 0) (pa_cons pe_int pa_nil))) pa_nil)))
      (pss_cons (ps_set (i := 2) sc_law.nd rfl (.inl rfl) (pe_cmpR op_eq (pe_cal c__law_draw hr (pa_cons (pv 1) (pa_cons pe_int pa_nil))) pe_int (nomark _)))
      (pss_cons (ps_set (i := 3) sc_law.nd rfl (.inl rfl) (pe_cmpR op_eq (pe_cal c__law_draw hr (pa_cons (pv 1) (pa_cons pe_int pa_nil))) pe_int (nomark _)))
      (pss_cons (ps_set (i := 4) sc_law.nd rfl (.inl rfl) (pe_op op_sub (pe_cal c__law_draw hr (pa_cons (pv 1) (pa_cons pe_int pa_nil))) pe_int))
      (pss_cons (ps_set (i := 5) sc_law.nd rfl (.inr rfl) (pe_lc (own := [("_law_cell", 9)]) (g := gName 9) (tt := tYes) (te := (tCall spVal [] E0 (tCons (tCall spWell [] E0 (tCons (tVar 9) tNil)) tNil))) (by rfl) sc_law.nd (pi_list (pe_slice sl_list (pv 0) (po_some pe_int) (po_some pe_int))) (blkOk_by (own := [("_law_cell", 9)]) (N := ["_law_script", "_law_well_here", "_law_distant", "_law_twice", "_law_away", "_law_values", "_law_k", "_law_sum_due", "_law_words", "_law_cell", "_law_value_here"]) (sc := defScope s_law) (by decide +kernel)) (fun _ _ _ _ _ => by exact (pg_name (i := 9) sc_law.nd rfl (.inl rfl))) (fun _ _ _ _ _ => by exact pts_nil) (fun _ _ _ _ _ => by exact (pe_cal c__law_value hr (pa_cons (pe_cal c__law_well hr (pa_cons (pv 9) pa_nil)) pa_nil)))))
      (C8.pss_cut (ps_if (PW.pt (pw_and (pt_val (pv 3)) (pw_and1 (pt_cmpR (op_neD hr.units) (pv 5) (pe_lst pa_nil) (nomark _))))) (pss_one (ps_set (i := 5) sc_law.nd rfl (.inr rfl) (pe_lc (own := [("_law_k", 6)]) (g := gName 6) (tt := tYes) (te := (tOp (rIxL K) (tVar 5) (tOp (rI CDiv fun i j => V.int (i / j)) (tVar 6) (tC (.int 2))))) (by rfl) sc_law.nd (pi_range1 (by rfl) z.range (pa_cons (pe_callB call_len_seq (by rfl) z.len PySem.boot_len (pa_cons (pv 5) pa_nil)) pa_nil)) (blkOk_by (own := [("_law_k", 6)]) (N := ["_law_script", "_law_well_here", "_law_distant", "_law_twice", "_law_away", "_law_values", "_law_k", "_law_sum_due", "_law_words", "_law_cell", "_law_value_here"]) (sc := defScope s_law) (by decide +kernel)) (fun _ _ _ _ _ => by exact (pg_name (i := 6) sc_law.nd rfl (.inl rfl))) (fun _ _ _ _ _ => by exact pts_nil) (fun _ _ _ _ _ => by exact (pe_ix ix_list (pv 5) (pe_op op_fdiv (pv 6) pe_int) (fun _ _ => rfl)))))) pss_nil)
      (pss_cons (ps_set (i := 7) sc_law.nd rfl (.inl rfl) (pe_callB (cr_sum rfl) (by rfl) z.sum (by decide +kernel) (pa_cons (pe_lc (own := [("_law_value_here", 10)]) (g := gName 10) (tt := tYes) (te := (tOp (rI CDivW fun i j => V.int (i / j)) (tOp (rIxT K) (tVar 10) (tC (.int 0))) (tOp (rIxT K) (tVar 10) (tC (.int 1))))) (by rfl) sc_law.nd (pi_list (pv 5)) (blkOk_by (own := [("_law_value_here", 10)]) (N := ["_law_script", "_law_well_here", "_law_distant", "_law_twice", "_law_away", "_law_values", "_law_k", "_law_sum_due", "_law_words", "_law_cell", "_law_value_here"]) (sc := defScope s_law) (by decide +kernel)) (fun _ _ _ _ _ => by exact (pg_name (i := 10) sc_law.nd rfl (.inl rfl))) (fun _ _ _ _ _ => by exact pts_nil) (fun _ _ _ _ _ => by exact (pe_op op_fdivW (pe_ix ix_tup (pv 10) pe_int (fun _ _ => rfl)) (pe_ix ix_tup (pv 10) pe_int (fun _ _ => rfl))))) pa_nil)))
      (C8.pss_cut (ps_if (pt_cmpR (op_neD hr.units) (pv 5) (pe_lst pa_nil) (nomark _)) (pss_one (ps_set (i := 7) sc_law.nd rfl (.inl rfl) (pe_op op_add (pv 7) (pe_ix ix_list (pe_lst (pa_cons (pv 4) (pa_cons (pe_op op_mod (pe_callB call_abs (by rfl) z.abs (by decide +kernel) (pa_cons (pv 4) pa_nil)) (pe_op op_add (pe_callB call_len_seq (by rfl) z.len PySem.boot_len (pa_cons (pv 5) pa_nil)) pe_int)) pa_nil))) (pe_callTy call_int1 (by rfl) z.int (by decide +kernel) (pa_cons (pe_not (pv 2)) pa_nil)) (fun _ _ => rfl))))) pss_nil)
      (pss_cons (ps_set (i := 8) sc_law.nd rfl (.inl rfl) (pe_cal c__law_right hr (pa_cons (pv 5) (pa_cons (pv 7) pa_nil))))
      (pss_cons (ps_if (pt_cmpR op_isN (pv 8) pe_non (nomark _)) (pss_one (ps_ret pe_bl)) pss_nil)
      (pss_cons (ps_for PassesOwn.never rfl (pi_range1 (by rfl) z.range (pa_cons pe_int pa_nil)) (pg_name (i := 6) sc_law.nd rfl (.inl rfl)) (pss_one (ps_if (pt_not (pt_val (pe_cal c__law_no_better hr (pa_cons (pv 5) (pa_cons (pv 8) (pa_cons (pv 1) pa_nil)))))) (pss_one (ps_ret pe_bl)) pss_nil)))
      (pss_one (ps_ret (pe_cmpR op_notN (pe_cal c__law_right hr (pa_cons (pv 5) (pa_cons (pv 7) pa_nil))) pe_non (nomark _))))))))))))))), ?_⟩
    refine ⟨_, rfl, a, ns, 0, rfl, hS, _, rfl, fun ww hp H1 s1 w1 => ?_⟩
    refine ⟨_, rfl, ww, 0, 3, rfl, w1, by omega, by decide, by decide, fun r2 H2 r20 r21 d2 f2 w2 => ⟨rfl, ?_⟩⟩
    refine ⟨_, rfl, ww, 0 + 1, 3, rfl, w2, by omega, by decide, by decide, fun r3 H3 r30 r31 d3 f3 w3 => ⟨rfl, ?_⟩⟩
    refine ⟨_, rfl, ww, 0 + 1 + 1, 201, rfl, w3, by omega, by decide, by decide, fun r4 H4 r40 r41 d4 f4 w4 => ⟨_, _, rfl, rfl, ?_⟩⟩
    have D4 := d2.trans (d3.trans d4)
    have S4 : Same H H4 := same_but s1 D4 hp
    have T4 : LamX.Tabs (TT Pb) H4 := tabs_w (hT.ext s1) D4 w1
    obtain ⟨cs, hcs⟩ := cut_ints ns (some 1) (some 41)
    have c40 := cut40 (ns.map V.int)
    rw [hcs, List.length_map] at c40
    refine ⟨_, rfl, _, rfl, _, rfl, a, _, rfl, S4.seq hS, fun S hSn => ?_⟩
    rw [hcs]
    have s5 := same_new (o := .lst (cs.map V.int)) hSn
    have g5 : (upd H4 S (.lst (cs.map V.int))) S = some (.lst (cs.map V.int)) := upd_same
    have w5 := w4.same s5
    have T5 := T4.ext s5
    have hS5 := (S4.trans s5).seq hS
    generalize hU : upd H4 S _ = H5 at s5 g5 w5 T5 hS5 ⊢
    clear hU
    refine ⟨S, rfl, ⟨_, SqL.of g5⟩, fun D hD => lc_list (K := K) (a := S) (xs := cs.map V.int) (fun i X => Same H5 X ∧ ∃ vs qs, X D = some (.lst vs) ∧ FrsAt X vs qs ∧ qs.length = i ∧ ∀ q ∈ qs, Vl q) ⟨same_new hD, [], [], upd_same, .nil, rfl, fun q h => absurd h List.not_mem_nil⟩ (fun i X _ hP => SqL.of (hP.1 _ _ g5)) (fun i x X hx hP => ?_) (fun X hP => ?_)⟩
    · obtain ⟨sX, vs, qs, hvs, fvs, lq, vq⟩ := hP
      have li := (List.getElem?_eq_some_iff.mp hx).1
      rw [List.length_map] at li
      rw [List.getElem?_map] at hx
      obtain ⟨cell, _, rfl⟩ := Option.map_eq_some_iff.mp hx
      refine ⟨rfl, _, rfl, cell, rfl, fun w9 hw9 X1 t1 k1 => ?_⟩
      refine ⟨w9, 0, rfl, k1, by decide, fun p q X2 hp2 d2' f2' v2' => ?_⟩
      have SX : Same X X2 := same_but t1 d2' hw9
      have nD : p ≠ D := fun e => by
        rw [e, t1 _ _ hvs] at hp2
        cases hp2
      refine ⟨_, SX _ _ hvs, small1000 (by have := FrsAt.len fvs; omega), fun b o e => ?_, _, qs ++ [q], upd_same, ?_, ?_, fun y hy => ?_⟩
      · rw [upd_ne (ne_of_none e hD)]
        exact SX _ _ (sX _ _ e)
      · refine FrsAt.app ((PrsAt.same fvs SX).but SameBut.upd (SX _ _ hvs)) (FrsAt.one ?_)
        show (upd X2 D _) p = _
        rw [upd_ne nD]
        exact f2'
      · rw [List.length_append, lq]
        rfl
      · rcases List.mem_append.mp hy with hy | hy
        · exact vq y hy
        · rw [List.mem_singleton.mp hy]
          exact v2'
    obtain ⟨sX, vs, qs, hvs, fvs, lq, vq⟩ := hP
    rw [List.length_map] at lq
    have fA : FrL X D qs := ⟨vs, hvs, fvs⟩
    have wX := w5.same sX
    have TX := T5.ext sX
    have SX : Same H X := S4.trans (s5.trans sX)
    refine ⟨fun σ G => ∃ (A1 : Addr) (ps : List Rat) (y6 y9 y10 : Option V), σ = [some (.ref a), some (.ref ww), some (.bl (decide (V.int r2 = V.int 0))), some (.bl (decide (V.int r3 = V.int 0))), some (.int (r4 - 100)), some (.ref A1), y6, none, none, y9, y10] ∧ FrL G A1 ps ∧ ps.length ≤ 40 ∧ (∀ q ∈ ps, Vl q) ∧ WellAt G ww (0 + 1 + 1 + 1) ∧ LamX.Tabs (TT Pb) G, ?_, fun σ G hM => ?_⟩
    · refine ⟨_, rfl, _, rfl, ite2 (fun c1 => ?_) (fun c1 => iteF ?_)⟩
      · refine ⟨_, rfl, (by show 0 ≤ sizeLine; decide), fun e0 he0 => ?_⟩
        have s6 := same_new (o := .lst []) he0
        refine ⟨.list (qs.map frD), .list (([] : List Rat).map frD), (fA.same s6).dp, .lst (SqL.of upd_same) .nil, frL_shaped _, frL_shaped _, _, rfl, ?_⟩
        rw [frL_eqv]
        have f6 := fA.same s6
        have w6 := wX.same s6
        have T6 := TX.ext s6
        generalize hU : upd X e0 (.lst []) = X6 at s6 f6 w6 T6 ⊢
        clear hU
        refine iteN (fun c2 => ?_) (fun c2 => ?_)
        · obtain ⟨v6, e6, lv6, hv6⟩ := f6.len
          refine ⟨_, rfl, D, v6, rfl, .inl (SqL.of e6), _, rfl, by omega, by omega, fun D2 hD2 => ?_⟩
          rw [Int.toNat_natCast]
          refine lc_range (lo := 0) (n := v6.length) (fun j Y => Same X6 Y ∧ ∃ vs2 qs2, Y D2 = some (.lst vs2) ∧ FrsAt Y vs2 qs2 ∧ qs2.length = j ∧ ∀ q ∈ qs2, Vl q) ⟨same_new hD2, [], [], upd_same, .nil, rfl, fun q h => absurd h List.not_mem_nil⟩ (fun j Y hj hP => ?_) (fun Y hP => ?_)
          · obtain ⟨sY, vs2, qs2, g2, fv2, lq2, vq2⟩ := hP
            have j2 : j / 2 < qs.length := by omega
            obtain ⟨p, hp1, fp⟩ := FrsAt.fn hv6 j2
            have ix : atI v6 ((0 + (j : Nat) : Int) / 2) = some (.ref p) := by
              have : ((0 + (j : Nat) : Int) / 2) = ((j / 2 : Nat) : Int) := by omega
              rw [this]
              exact atI_nat hp1
            refine ⟨rfl, _, rfl, _, rfl, _, _, rfl, rfl, ⟨by decide, by decide⟩, D, _, _, .ref p, rfl, rfl, SqL.of (sY _ _ e6), ix, ?_⟩
            refine ⟨_, g2, small1000 (by have := FrsAt.len fv2; omega), fun b o e => ?_, _, qs2 ++ [fn qs (j / 2)], upd_same, ?_, ?_, fun y hy => ?_⟩
            · rw [upd_ne (ne_of_none e hD2)]
              exact sY _ _ e
            · refine FrsAt.app (PrsAt.but fv2 SameBut.upd g2) (FrsAt.one ?_)
              show (upd Y D2 _) p = _
              rw [upd_ne (fun z => by
                have u1 := sY _ _ fp
                rw [z, g2] at u1
                cases u1)]
              exact sY _ _ fp
            · rw [List.length_append, lq2]
              rfl
            · rcases List.mem_append.mp hy with hy | hy
              · exact vq2 y hy
              · rw [List.mem_singleton.mp hy]
                exact vq _ (fn_mem j2)
          · obtain ⟨sY, vs2, qs2, g2, fv2, lq2, vq2⟩ := hP
            exact ⟨D2, qs2, _, _, _, rfl, ⟨vs2, g2, fv2⟩, by omega, vq2, w6.same sY, T6.ext sY⟩
        · exact ⟨D, qs, _, _, _, rfl, f6, by omega, vq, w6, T6⟩
      · exact ⟨D, qs, _, _, _, rfl, fA, by omega, vq, wX, TX⟩
    · obtain ⟨A1, ps, y6, y9, y10, rfl, fP, lp, vp, wG, TG⟩ := hM
      obtain ⟨vP, eP, lvP, hvP⟩ := fP.len
      refine ⟨_, rfl, A1, rfl, ⟨_, SqL.of eP⟩, fun Ds hDs => lc_list (K := K) (a := A1) (xs := vP) (fun i Y => Same G Y ∧ Y Ds = some (.lst (((ps.take i).map fl).map V.int))) ⟨same_new hDs, upd_same⟩ (fun i Y _ hP => SqL.of (hP.1 _ _ eP)) (fun i x Y hx hP => ?_) (fun Y hP => ?_)⟩
      · obtain ⟨sY, hacc⟩ := hP
        obtain ⟨p, q, rfl, hqx, hp⟩ := FrsAt.get hvP hx
        have li := (List.getElem?_eq_some_iff.mp hqx).1
        have d9 := (vp q (List.mem_of_getElem? hqx)).1
        have d0 := den_ge q
        refine ⟨rfl, _, rfl, p, _, 0, .int q.num, rfl, rfl, SqT.of (sY _ _ hp), a0, _, rfl, p, _, 1, .int q.den, rfl, rfl, SqT.of (sY _ _ hp), a1, _, _, rfl, rfl, wide_div (b := 60) (by omega) (by omega) (by decide) (by decide), _, hacc, ?_, fun b o e => ?_, ?_⟩
        · rw [List.length_map, List.length_map, List.length_take]
          exact small1000 (by omega)
        · rw [upd_ne (ne_of_none e hDs)]
          exact sY _ _ e
        · rw [upd_same, List.take_succ, hqx, Option.toList_some, List.map_append, List.map_append]
          rfl
      obtain ⟨sY, hacc⟩ := hP
      rw [lvP, List.take_length] at hacc
      refine ⟨Ds, ps.map fl, rfl, SqL.of hacc, ?_⟩
      have es : (ps.map fl).sum = sumF ps := rfl
      rw [es]
      have fY := fP.same sY
      have wY := wG.same sY
      have TY := TG.ext sY
      refine ⟨fun σ Z => ∃ (total : Int) (y6 y9 y10 : Option V), σ = [some (.ref a), some (.ref ww), some (.bl (decide (V.int r2 = V.int 0))), some (.bl (decide (V.int r3 = V.int 0))), some (.int (r4 - 100)), some (.ref A1), y6, some (.int total), none, y9, y10] ∧ FrL Z A1 ps ∧ WellAt Z ww (0 + 1 + 1 + 1) ∧ LamX.Tabs (TT Pb) Z ∧ -100 ≤ total - sumF ps ∧ total - sumF ps ≤ 100 ∧ (ps = [] → total = 0), ?_, fun σ Z hM => ?_⟩
      · refine ⟨_, rfl, (by show 0 ≤ sizeLine; decide), fun e0 he0 => ?_⟩
        have s6 := same_new (o := .lst []) he0
        refine ⟨.list (ps.map frD), .list (([] : List Rat).map frD), (fY.same s6).dp, .lst (SqL.of upd_same) .nil, frL_shaped _, frL_shaped _, _, rfl, ?_⟩
        rw [frL_eqv]
        have f6 := fY.same s6
        have w6 := wY.same s6
        have T6 := TY.ext s6
        generalize hU : upd Y e0 (.lst []) = Y6 at s6 f6 w6 T6 ⊢
        clear hU
        refine iteN (fun c2 => ?_) (fun c2 => ?_)
        · obtain ⟨v6, e6, lv6, _⟩ := f6.len
          have n0 : 0 < ps.length := by
            cases ps with
            | nil => exact absurd rfl c2
            | cons _ _ => exact Nat.succ_pos _
          have m0 : 0 < ((v6.length : Nat) : Int) + 1 := by omega
          have ab0 := Int.emod_nonneg (if r4 - 100 < 0 then -(r4 - 100) else r4 - 100) (show ((v6.length : Nat) : Int) + 1 ≠ 0 by omega)
          have ab1 := Int.emod_lt_of_pos (if r4 - 100 < 0 then -(r4 - 100) else r4 - 100) m0
          refine ⟨_, rfl, _, rfl, _, rfl, _, rfl, _, rfl, A1, v6, rfl, .inl (SqL.of e6), _, _, rfl, rfl, _, _, rfl, rfl, m0, (by show 2 ≤ sizeLine; decide), fun l9 hl9 => ?_⟩
          have s9 := same_new (o := .lst [.int (r4 - 100), .int ((if r4 - 100 < 0 then -(r4 - 100) else r4 - 100) % (((v6.length : Nat) : Int) + 1))]) hl9
          obtain ⟨v, hvv, v0, v1⟩ : ∃ v : Int, atI [V.int (r4 - 100), V.int ((if r4 - 100 < 0 then -(r4 - 100) else r4 - 100) % (((v6.length : Nat) : Int) + 1))] (if (!decide (V.int r2 = V.int 0)) = true then 1 else 0) = some (.int v) ∧ -100 ≤ v ∧ v ≤ 100 := by
            cases decide (V.int r2 = V.int 0) with
            | true => exact ⟨_, atI_nat (j := 0) rfl, by omega, by omega⟩
            | false => exact ⟨_, atI_nat (j := 1) rfl, by omega, by omega⟩
          refine ⟨_, rfl, _, rfl, .inr ⟨_, rfl, l9, _, _, .int v, rfl, rfl, SqL.of upd_same, hvv, _, _, rfl, rfl, ?_⟩⟩
          exact ⟨sumF ps + v, _, _, _, rfl, f6.same s9, w6.same s9, T6.ext s9, by omega, by omega, fun z => by rw [z] at n0; exact absurd n0 (by decide)⟩
        · exact ⟨sumF ps, _, _, _, rfl, f6, w6, T6, by omega, by omega, fun z => by rw [z]; rfl⟩
      · obtain ⟨total, y6, y9, y10, rfl, fZ, wZ, TZ, t0, t1, hn0⟩ := hM
        obtain ⟨Dm, bt⟩ := vl_ok vp lp
        refine ⟨_, rfl, _, rfl, A1, ps, Dm, total, rfl, fZ, lp, bt, vp, t0, t1, hn0, TZ, fun l ws pt pb Z1 en1 T1 hl hl0 lw p0 hk => ?_⟩
        have nlw : l ≠ ww := wZ.ne hl0
        have fZ1 := frL_ext fZ en1
        have wZ1 := well_ext wZ en1
        refine ⟨_, rfl, rfl, _, rfl, iteC (d := false) rfl (iteF ?_)⟩
        refine ⟨6, rfl, by decide, by decide, for_range (n := 6) (fun i σ Y => SameBut ww Z1 Y ∧ WellAt Y ww (3 + 3 * (i : Int)) ∧ ∃ y6 : Option V, σ = [some (.ref a), some (.ref ww), some (.bl (decide (V.int r2 = V.int 0))), some (.bl (decide (V.int r3 = V.int 0))), some (.int (r4 - 100)), some (.ref A1), y6, some (.int total), some (.ref l), y9, y10]) ⟨SameBut.refl _ _, wZ1.mono (by omega), _, rfl⟩ (fun i σ Y hi hP => ?_) (fun σ Y hP => ?_)⟩
        · obtain ⟨sb, wi, y6, rfl⟩ := hP
          refine ⟨_, rfl, _, rfl, _, rfl, A1, l, ww, _, ps, ws, pt, pb, rfl, fZ1.well sb wZ1, sb _ _ nlw hl, nlw, wi, by omega, lp, lw, p0, vp, fun i hi => (hk i hi).2, fun i hi => (hk i hi).1, fun Y2 d2 w2 => ⟨_, rfl, iteF ?_⟩⟩
          exact ⟨sb.trans d2, w2.mono (by omega), _, rfl⟩
        · obtain ⟨sb, wi, y6, rfl⟩ := hP
          refine ⟨_, rfl, _, rfl, A1, ps, Dm, total, rfl, fZ1.well sb wZ1, lp, bt, vp, t0, t1, hn0, tabs_w T1 sb wZ1, fun l2 ws2 pt2 pb2 Z2 _ _ _ _ _ _ _ => ?_⟩
          exact ⟨rfl, q _⟩
end
end E1

namespace E1
open PySem PySem.Spec PyProof.Rows L2

theorem Vals.rev : ∀ {xs : List V} {us : List Value}, Vals xs us → Vals xs.reverse us.reverse
  | _, _, .nil => .nil
  | _, _, .cons r t => by
    rw [List.reverse_cons, List.reverse_cons]
    exact Vals.append (Vals.rev t) (.cons r .nil)
section
variable {P : Program} {w : World} {K : PySem.W.Frag} {mg : Str → Option Value} {base : Heap} {x : Str} {st : Stmt} {f : Addr} {fd : FuncData} {ps ks : List Str} {k n : Nat} {sp : Sp}
/-- a def without defaults: its arguments by keywords alone or behind others -/
theorem Fun.kbn {qual : Str} (F : Fun K x qual st f fd) {g : List Value → List Value → List Value} {gV : List V → List V → List V} (hrel : ∀ {vs : List V} {us : List Value} {zs : List V} {ws : List Value}, Vals vs us → Vals zs ws → Vals (gV vs zs) (g us ws))
    (h : ∀ (kV doc pm : Value) (an : Option Addr) (cdv ct : Value) (us ws : List Value), us.length = n → ws.length = ks.length → bindArgs (PySem.W.fnOf x qual (defArgs st) (defBody st) (defScope st) .none kV doc pm an cdv ct) ⟨us, ks.zip ws⟩ = pure (ps.zip (g us ws))) : KBn K fd ps n ks g gV := by
  rcases F.ex with ⟨_, _, v1, v2, v3, v4, v5, v6, _, same, _, _⟩
  subst same
  exact ⟨fun s us ws _ l1 l2 => .of_eq (h v1 v2 v3 v4 v5 v6 us ws l1 l2), hrel⟩
/-- a def with defaults, all arguments given -/
theorem FunD.kbn {qual : Str} {params : Arguments} {body : List Stmt} {scope : Scope} {dvs : List V} {kws : List (Str × V)} (F : FunD K x qual params body scope dvs kws f fd) (hd : dvs ≠ []) {g : List Value → List Value → List Value} {gV : List V → List V → List V} (hrel : ∀ {vs : List V} {us : List Value} {zs : List V} {ws : List Value}, Vals vs us → Vals zs ws → Vals (gV vs zs) (g us ws))
    (h : ∀ (T : Addr) (kV doc pm : Value) (an : Option Addr) (cdv ct : Value) (us ws its : List Value), us.length = n → ws.length = ks.length → its.length = dvs.length → ∃ k, bindArgs (PySem.W.fnOf x qual params body scope (.ref T) kV doc pm an cdv ct) ⟨us, ks.zip ws⟩ = seqItems? (.ref T) >>= k ∧ k (some its.toArray) = pure (ps.zip (g us ws))) : KBn K fd ps n ks g gV := by
  rcases F.ex with ⟨_, _, _, v1, v2, v3, v4, v5, v6, _, same, _, _, bare | given, _⟩
  · exact absurd bare.1 hd
  · rcases given with ⟨_, T, _, its, _, dv, at_, it, rel⟩
    subst same dv
    refine ⟨fun s us ws inn l1 l2 => BindsTo.of_looks fun M => ?_, hrel⟩
    rcases h T v1 v2 v3 v4 v5 v6 us ws its l1 l2 rel.length.symm with ⟨go, b1, b2⟩
    rw [b1]
    exact looks_items inn at_ it (.of_pure b2)
end
theorem tabs0 {H : Hp} {P1 : Addr} (h1 : H P1 = some (.tbl #[])) : LamX.Tabs (TT P1) H := fun p hp => by
  rw [List.mem_singleton.mp hp]
  exact ⟨_, h1, (by first | exact trivial | decide | exact .nil), fun _ _ z => by cases z⟩
theorem all_mk {l : PySem.W.OpenLaw} {w : World} {K : PySem.W.Frag} {h : Heap} {mg : Str → Option Value} {fa : Addr} {f_is_whole f_is_fraction f_shared_divisor f_lowest f_plus f_minus f_is_fractions f_common_bottom f_cleared f_floor_of f_check_values f_price_of_raising f_fitted f__law_cell_at f__law_well f__law_draw f__law_low f__law_value f__law_off f__law_kept f__law_no_better f__law_right f_law f_bgr c_bgr P_bgr A_ONE : Addr} (X : K.In h) (G : h.Ns mainGlobals mg) (hfa : mg "law" = some (.ref fa))
    {od_is_whole an_is_whole : Option Addr} {sl_is_whole : Array (Option Value)} {oc_is_whole kV_is_whole dc_is_whole pm_is_whole cd_is_whole ct_is_whole : Value}
    (a_is_whole : PySem.W.nsIn K mainGlobals "is_whole" = some (some (.ref f_is_whole)))
    (l_is_whole : K.lookup f_is_whole = some ⟨oc_is_whole, od_is_whole, .func (PySem.W.fnOf "is_whole" "is_whole" (defArgs s_is_whole) (defBody s_is_whole) (defScope s_is_whole) .none kV_is_whole dc_is_whole pm_is_whole an_is_whole cd_is_whole ct_is_whole), sl_is_whole⟩)
    (c_is_whole : PySem.W.codeIn K cd_is_whole "is_whole" = true)
    (k_is_whole : PySem.W.keepIn K (.ref f_is_whole) = true)
    {od_is_fraction an_is_fraction : Option Addr} {sl_is_fraction : Array (Option Value)} {oc_is_fraction kV_is_fraction dc_is_fraction pm_is_fraction cd_is_fraction ct_is_fraction : Value}
    (a_is_fraction : PySem.W.nsIn K mainGlobals "is_fraction" = some (some (.ref f_is_fraction)))
    (l_is_fraction : K.lookup f_is_fraction = some ⟨oc_is_fraction, od_is_fraction, .func (PySem.W.fnOf "is_fraction" "is_fraction" (defArgs s_is_fraction) (defBody s_is_fraction) (defScope s_is_fraction) .none kV_is_fraction dc_is_fraction pm_is_fraction an_is_fraction cd_is_fraction ct_is_fraction), sl_is_fraction⟩)
    (c_is_fraction : PySem.W.codeIn K cd_is_fraction "is_fraction" = true)
    (k_is_fraction : PySem.W.keepIn K (.ref f_is_fraction) = true)
    {od_shared_divisor an_shared_divisor : Option Addr} {sl_shared_divisor : Array (Option Value)} {oc_shared_divisor kV_shared_divisor dc_shared_divisor pm_shared_divisor cd_shared_divisor ct_shared_divisor : Value}
    (a_shared_divisor : PySem.W.nsIn K mainGlobals "shared_divisor" = some (some (.ref f_shared_divisor)))
    (l_shared_divisor : K.lookup f_shared_divisor = some ⟨oc_shared_divisor, od_shared_divisor, .func (PySem.W.fnOf "shared_divisor" "shared_divisor" (defArgs s_shared_divisor) (defBody s_shared_divisor) (defScope s_shared_divisor) .none kV_shared_divisor dc_shared_divisor pm_shared_divisor an_shared_divisor cd_shared_divisor ct_shared_divisor), sl_shared_divisor⟩)
    (c_shared_divisor : PySem.W.codeIn K cd_shared_divisor "shared_divisor" = true)
    (k_shared_divisor : PySem.W.keepIn K (.ref f_shared_divisor) = true)
    {od_lowest an_lowest : Option Addr} {sl_lowest : Array (Option Value)} {oc_lowest kV_lowest dc_lowest pm_lowest cd_lowest ct_lowest : Value}
    (a_lowest : PySem.W.nsIn K mainGlobals "lowest" = some (some (.ref f_lowest)))
    (l_lowest : K.lookup f_lowest = some ⟨oc_lowest, od_lowest, .func (PySem.W.fnOf "lowest" "lowest" (defArgs s_lowest) (defBody s_lowest) (defScope s_lowest) .none kV_lowest dc_lowest pm_lowest an_lowest cd_lowest ct_lowest), sl_lowest⟩)
    (c_lowest : PySem.W.codeIn K cd_lowest "lowest" = true)
    (k_lowest : PySem.W.keepIn K (.ref f_lowest) = true)
    {od_plus an_plus : Option Addr} {sl_plus : Array (Option Value)} {oc_plus kV_plus dc_plus pm_plus cd_plus ct_plus : Value}
    (a_plus : PySem.W.nsIn K mainGlobals "plus" = some (some (.ref f_plus)))
    (l_plus : K.lookup f_plus = some ⟨oc_plus, od_plus, .func (PySem.W.fnOf "plus" "plus" (defArgs s_plus) (defBody s_plus) (defScope s_plus) .none kV_plus dc_plus pm_plus an_plus cd_plus ct_plus), sl_plus⟩)
    (c_plus : PySem.W.codeIn K cd_plus "plus" = true)
    (k_plus : PySem.W.keepIn K (.ref f_plus) = true)
    {od_minus an_minus : Option Addr} {sl_minus : Array (Option Value)} {oc_minus kV_minus dc_minus pm_minus cd_minus ct_minus : Value}
    (a_minus : PySem.W.nsIn K mainGlobals "minus" = some (some (.ref f_minus)))
    (l_minus : K.lookup f_minus = some ⟨oc_minus, od_minus, .func (PySem.W.fnOf "minus" "minus" (defArgs s_minus) (defBody s_minus) (defScope s_minus) .none kV_minus dc_minus pm_minus an_minus cd_minus ct_minus), sl_minus⟩)
    (c_minus : PySem.W.codeIn K cd_minus "minus" = true)
    (k_minus : PySem.W.keepIn K (.ref f_minus) = true)
    {od_is_fractions an_is_fractions : Option Addr} {sl_is_fractions : Array (Option Value)} {oc_is_fractions kV_is_fractions dc_is_fractions pm_is_fractions cd_is_fractions ct_is_fractions : Value}
    (a_is_fractions : PySem.W.nsIn K mainGlobals "is_fractions" = some (some (.ref f_is_fractions)))
    (l_is_fractions : K.lookup f_is_fractions = some ⟨oc_is_fractions, od_is_fractions, .func (PySem.W.fnOf "is_fractions" "is_fractions" (defArgs s_is_fractions) (defBody s_is_fractions) (defScope s_is_fractions) .none kV_is_fractions dc_is_fractions pm_is_fractions an_is_fractions cd_is_fractions ct_is_fractions), sl_is_fractions⟩)
    (c_is_fractions : PySem.W.codeIn K cd_is_fractions "is_fractions" = true)
    (k_is_fractions : PySem.W.keepIn K (.ref f_is_fractions) = true)
    {od_common_bottom an_common_bottom : Option Addr} {sl_common_bottom : Array (Option Value)} {oc_common_bottom kV_common_bottom dc_common_bottom pm_common_bottom cd_common_bottom ct_common_bottom : Value}
    (a_common_bottom : PySem.W.nsIn K mainGlobals "common_bottom" = some (some (.ref f_common_bottom)))
    (l_common_bottom : K.lookup f_common_bottom = some ⟨oc_common_bottom, od_common_bottom, .func (PySem.W.fnOf "common_bottom" "common_bottom" (defArgs s_common_bottom) (defBody s_common_bottom) (defScope s_common_bottom) .none kV_common_bottom dc_common_bottom pm_common_bottom an_common_bottom cd_common_bottom ct_common_bottom), sl_common_bottom⟩)
    (c_common_bottom : PySem.W.codeIn K cd_common_bottom "common_bottom" = true)
    (k_common_bottom : PySem.W.keepIn K (.ref f_common_bottom) = true)
    {od_cleared an_cleared : Option Addr} {sl_cleared : Array (Option Value)} {oc_cleared kV_cleared dc_cleared pm_cleared cd_cleared ct_cleared : Value}
    (a_cleared : PySem.W.nsIn K mainGlobals "cleared" = some (some (.ref f_cleared)))
    (l_cleared : K.lookup f_cleared = some ⟨oc_cleared, od_cleared, .func (PySem.W.fnOf "cleared" "cleared" (defArgs s_cleared) (defBody s_cleared) (defScope s_cleared) .none kV_cleared dc_cleared pm_cleared an_cleared cd_cleared ct_cleared), sl_cleared⟩)
    (c_cleared : PySem.W.codeIn K cd_cleared "cleared" = true)
    (k_cleared : PySem.W.keepIn K (.ref f_cleared) = true)
    {od_floor_of an_floor_of : Option Addr} {sl_floor_of : Array (Option Value)} {oc_floor_of kV_floor_of dc_floor_of pm_floor_of cd_floor_of ct_floor_of : Value}
    (a_floor_of : PySem.W.nsIn K mainGlobals "floor_of" = some (some (.ref f_floor_of)))
    (l_floor_of : K.lookup f_floor_of = some ⟨oc_floor_of, od_floor_of, .func (PySem.W.fnOf "floor_of" "floor_of" (defArgs s_floor_of) (defBody s_floor_of) (defScope s_floor_of) .none kV_floor_of dc_floor_of pm_floor_of an_floor_of cd_floor_of ct_floor_of), sl_floor_of⟩)
    (c_floor_of : PySem.W.codeIn K cd_floor_of "floor_of" = true)
    (k_floor_of : PySem.W.keepIn K (.ref f_floor_of) = true)
    {od_check_values an_check_values : Option Addr} {sl_check_values : Array (Option Value)} {oc_check_values kV_check_values dc_check_values pm_check_values cd_check_values ct_check_values : Value}
    (a_check_values : PySem.W.nsIn K mainGlobals "check_values" = some (some (.ref f_check_values)))
    (l_check_values : K.lookup f_check_values = some ⟨oc_check_values, od_check_values, .func (PySem.W.fnOf "check_values" "check_values" (defArgs s_check_values) (defBody s_check_values) (defScope s_check_values) .none kV_check_values dc_check_values pm_check_values an_check_values cd_check_values ct_check_values), sl_check_values⟩)
    (c_check_values : PySem.W.codeIn K cd_check_values "check_values" = true)
    (k_check_values : PySem.W.keepIn K (.ref f_check_values) = true)
    {od_price_of_raising an_price_of_raising : Option Addr} {sl_price_of_raising : Array (Option Value)} {oc_price_of_raising kV_price_of_raising dc_price_of_raising pm_price_of_raising cd_price_of_raising ct_price_of_raising : Value}
    (a_price_of_raising : PySem.W.nsIn K mainGlobals "price_of_raising" = some (some (.ref f_price_of_raising)))
    (l_price_of_raising : K.lookup f_price_of_raising = some ⟨oc_price_of_raising, od_price_of_raising, .func (PySem.W.fnOf "price_of_raising" "price_of_raising" (defArgs s_price_of_raising) (defBody s_price_of_raising) (defScope s_price_of_raising) .none kV_price_of_raising dc_price_of_raising pm_price_of_raising an_price_of_raising cd_price_of_raising ct_price_of_raising), sl_price_of_raising⟩)
    (c_price_of_raising : PySem.W.codeIn K cd_price_of_raising "price_of_raising" = true)
    (k_price_of_raising : PySem.W.keepIn K (.ref f_price_of_raising) = true)
    {od_fitted an_fitted : Option Addr} {sl_fitted : Array (Option Value)} {oc_fitted kV_fitted dc_fitted pm_fitted cd_fitted ct_fitted : Value}
    (a_fitted : PySem.W.nsIn K mainGlobals "fitted" = some (some (.ref f_fitted)))
    (l_fitted : K.lookup f_fitted = some ⟨oc_fitted, od_fitted, .func (PySem.W.fnOf "fitted" "fitted" (defArgs s_fitted) (defBody s_fitted) (defScope s_fitted) .none kV_fitted dc_fitted pm_fitted an_fitted cd_fitted ct_fitted), sl_fitted⟩)
    (c_fitted : PySem.W.codeIn K cd_fitted "fitted" = true)
    (k_fitted : PySem.W.keepIn K (.ref f_fitted) = true)
    {od__law_cell_at an__law_cell_at : Option Addr} {sl__law_cell_at : Array (Option Value)} {oc__law_cell_at kV__law_cell_at dc__law_cell_at pm__law_cell_at cd__law_cell_at ct__law_cell_at : Value}
    (a__law_cell_at : PySem.W.nsIn K mainGlobals "_law_cell_at" = some (some (.ref f__law_cell_at)))
    (l__law_cell_at : K.lookup f__law_cell_at = some ⟨oc__law_cell_at, od__law_cell_at, .func (PySem.W.fnOf "_law_cell_at" "_law_cell_at" (defArgs s__law_cell_at) (defBody s__law_cell_at) (defScope s__law_cell_at) .none kV__law_cell_at dc__law_cell_at pm__law_cell_at an__law_cell_at cd__law_cell_at ct__law_cell_at), sl__law_cell_at⟩)
    (c__law_cell_at : PySem.W.codeIn K cd__law_cell_at "_law_cell_at" = true)
    (k__law_cell_at : PySem.W.keepIn K (.ref f__law_cell_at) = true)
    {od__law_well an__law_well : Option Addr} {sl__law_well : Array (Option Value)} {oc__law_well kV__law_well dc__law_well pm__law_well cd__law_well ct__law_well : Value}
    (a__law_well : PySem.W.nsIn K mainGlobals "_law_well" = some (some (.ref f__law_well)))
    (l__law_well : K.lookup f__law_well = some ⟨oc__law_well, od__law_well, .func (PySem.W.fnOf "_law_well" "_law_well" (defArgs s__law_well) (defBody s__law_well) (defScope s__law_well) .none kV__law_well dc__law_well pm__law_well an__law_well cd__law_well ct__law_well), sl__law_well⟩)
    (c__law_well : PySem.W.codeIn K cd__law_well "_law_well" = true)
    (k__law_well : PySem.W.keepIn K (.ref f__law_well) = true)
    {od__law_draw an__law_draw : Option Addr} {sl__law_draw : Array (Option Value)} {oc__law_draw kV__law_draw dc__law_draw pm__law_draw cd__law_draw ct__law_draw : Value}
    (a__law_draw : PySem.W.nsIn K mainGlobals "_law_draw" = some (some (.ref f__law_draw)))
    (l__law_draw : K.lookup f__law_draw = some ⟨oc__law_draw, od__law_draw, .func (PySem.W.fnOf "_law_draw" "_law_draw" (defArgs s__law_draw) (defBody s__law_draw) (defScope s__law_draw) .none kV__law_draw dc__law_draw pm__law_draw an__law_draw cd__law_draw ct__law_draw), sl__law_draw⟩)
    (c__law_draw : PySem.W.codeIn K cd__law_draw "_law_draw" = true)
    (k__law_draw : PySem.W.keepIn K (.ref f__law_draw) = true)
    {od__law_low an__law_low : Option Addr} {sl__law_low : Array (Option Value)} {oc__law_low kV__law_low dc__law_low pm__law_low cd__law_low ct__law_low : Value}
    (a__law_low : PySem.W.nsIn K mainGlobals "_law_low" = some (some (.ref f__law_low)))
    (l__law_low : K.lookup f__law_low = some ⟨oc__law_low, od__law_low, .func (PySem.W.fnOf "_law_low" "_law_low" (defArgs s__law_low) (defBody s__law_low) (defScope s__law_low) .none kV__law_low dc__law_low pm__law_low an__law_low cd__law_low ct__law_low), sl__law_low⟩)
    (c__law_low : PySem.W.codeIn K cd__law_low "_law_low" = true)
    (k__law_low : PySem.W.keepIn K (.ref f__law_low) = true)
    {od__law_value an__law_value : Option Addr} {sl__law_value : Array (Option Value)} {oc__law_value kV__law_value dc__law_value pm__law_value cd__law_value ct__law_value : Value}
    (a__law_value : PySem.W.nsIn K mainGlobals "_law_value" = some (some (.ref f__law_value)))
    (l__law_value : K.lookup f__law_value = some ⟨oc__law_value, od__law_value, .func (PySem.W.fnOf "_law_value" "_law_value" (defArgs s__law_value) (defBody s__law_value) (defScope s__law_value) .none kV__law_value dc__law_value pm__law_value an__law_value cd__law_value ct__law_value), sl__law_value⟩)
    (c__law_value : PySem.W.codeIn K cd__law_value "_law_value" = true)
    (k__law_value : PySem.W.keepIn K (.ref f__law_value) = true)
    {od__law_off an__law_off : Option Addr} {sl__law_off : Array (Option Value)} {oc__law_off kV__law_off dc__law_off pm__law_off cd__law_off ct__law_off : Value}
    (a__law_off : PySem.W.nsIn K mainGlobals "_law_off" = some (some (.ref f__law_off)))
    (l__law_off : K.lookup f__law_off = some ⟨oc__law_off, od__law_off, .func (PySem.W.fnOf "_law_off" "_law_off" (defArgs s__law_off) (defBody s__law_off) (defScope s__law_off) .none kV__law_off dc__law_off pm__law_off an__law_off cd__law_off ct__law_off), sl__law_off⟩)
    (c__law_off : PySem.W.codeIn K cd__law_off "_law_off" = true)
    (k__law_off : PySem.W.keepIn K (.ref f__law_off) = true)
    {od__law_kept an__law_kept : Option Addr} {sl__law_kept : Array (Option Value)} {oc__law_kept kV__law_kept dc__law_kept pm__law_kept cd__law_kept ct__law_kept : Value}
    (a__law_kept : PySem.W.nsIn K mainGlobals "_law_kept" = some (some (.ref f__law_kept)))
    (l__law_kept : K.lookup f__law_kept = some ⟨oc__law_kept, od__law_kept, .func (PySem.W.fnOf "_law_kept" "_law_kept" (defArgs s__law_kept) (defBody s__law_kept) (defScope s__law_kept) .none kV__law_kept dc__law_kept pm__law_kept an__law_kept cd__law_kept ct__law_kept), sl__law_kept⟩)
    (c__law_kept : PySem.W.codeIn K cd__law_kept "_law_kept" = true)
    (k__law_kept : PySem.W.keepIn K (.ref f__law_kept) = true)
    {od__law_no_better an__law_no_better : Option Addr} {sl__law_no_better : Array (Option Value)} {oc__law_no_better kV__law_no_better dc__law_no_better pm__law_no_better cd__law_no_better ct__law_no_better : Value}
    (a__law_no_better : PySem.W.nsIn K mainGlobals "_law_no_better" = some (some (.ref f__law_no_better)))
    (l__law_no_better : K.lookup f__law_no_better = some ⟨oc__law_no_better, od__law_no_better, .func (PySem.W.fnOf "_law_no_better" "_law_no_better" (defArgs s__law_no_better) (defBody s__law_no_better) (defScope s__law_no_better) .none kV__law_no_better dc__law_no_better pm__law_no_better an__law_no_better cd__law_no_better ct__law_no_better), sl__law_no_better⟩)
    (c__law_no_better : PySem.W.codeIn K cd__law_no_better "_law_no_better" = true)
    (k__law_no_better : PySem.W.keepIn K (.ref f__law_no_better) = true)
    {od__law_right an__law_right : Option Addr} {sl__law_right : Array (Option Value)} {oc__law_right kV__law_right dc__law_right pm__law_right cd__law_right ct__law_right : Value}
    (a__law_right : PySem.W.nsIn K mainGlobals "_law_right" = some (some (.ref f__law_right)))
    (l__law_right : K.lookup f__law_right = some ⟨oc__law_right, od__law_right, .func (PySem.W.fnOf "_law_right" "_law_right" (defArgs s__law_right) (defBody s__law_right) (defScope s__law_right) .none kV__law_right dc__law_right pm__law_right an__law_right cd__law_right ct__law_right), sl__law_right⟩)
    (c__law_right : PySem.W.codeIn K cd__law_right "_law_right" = true)
    (k__law_right : PySem.W.keepIn K (.ref f__law_right) = true)
    {od_law an_law : Option Addr} {sl_law : Array (Option Value)} {oc_law kV_law dc_law pm_law cd_law ct_law : Value}
    (a_law : PySem.W.nsIn K mainGlobals "law" = some (some (.ref f_law)))
    (l_law : K.lookup f_law = some ⟨oc_law, od_law, .func (PySem.W.fnOf "law" "law" (defArgs s_law) (defBody s_law) (defScope s_law) .none kV_law dc_law pm_law an_law cd_law ct_law), sl_law⟩)
    (c_law : PySem.W.codeIn K cd_law "law" = true)
    (k_law : PySem.W.keepIn K (.ref f_law) = true)
    {od_bgr an_bgr cdd_bgr : Option Addr} {sl_bgr ccs_bgr : Array (Option Value)} {oc_bgr kV_bgr dc_bgr pm_bgr ct_bgr ccl_bgr : Value} {vs_bgr : Array Value}
    (a_bgr : PySem.W.nsIn K mainGlobals "by_greatest_rest" = some (some (.ref f_bgr)))
    (l_bgr : K.lookup f_bgr = some ⟨oc_bgr, od_bgr, .func (PySem.W.fnOf "by_greatest_rest" "by_greatest_rest" (defArgs s_by_greatest_rest) (defBody s_by_greatest_rest) (defScope s_by_greatest_rest) .none kV_bgr dc_bgr pm_bgr an_bgr (.ref c_bgr) ct_bgr), sl_bgr⟩)
    (cd_bgr : PySem.W.codeIn K (.ref c_bgr) "by_greatest_rest" = true)
    (k_bgr : PySem.W.keepIn K (.ref f_bgr) = true)
    (lc_bgr : K.lookup c_bgr = some ⟨ccl_bgr, cdd_bgr, .fields vs_bgr, ccs_bgr⟩)
    (v11_bgr : vs_bgr[11]? = some (.ref P_bgr))
    (hd_bgr : PySem.W.codeHdIn K c_bgr P_bgr = true)
    (nT_bgr : K.lookup P_bgr = none)
    (hT_bgr : h.get? P_bgr = some { cls := .none, data := .fields #[] })
    {tk_MOST_VALUES : Tok}
    (g_MOST_VALUES : PySem.W.nsIn K mainGlobals "MOST_VALUES" = some (some (.int 40 tk_MOST_VALUES)))
    {tk_FARTHEST_TOTAL : Tok}
    (g_FARTHEST_TOTAL : PySem.W.nsIn K mainGlobals "FARTHEST_TOTAL" = some (some (.int 100 tk_FARTHEST_TOTAL)))
    {tt_N : Option Addr} {tn_N : Nat} {ts_N : Array (Option Value)} {tk_N0 tk_N1 : Tok}
    (g_ONE : PySem.W.nsIn K mainGlobals "ONE" = some (some (.ref A_ONE)))
    (t_ONE : K.lookup A_ONE = some ⟨.type "tuple", tt_N, .seq [Value.int 1 tk_N0, Value.int 1 tk_N1].toArray tn_N, ts_N⟩)
    (z_isinstance : PySem.W.nsIn K mainGlobals "isinstance" = some none)
    (z_int : PySem.W.nsIn K mainGlobals "int" = some none)
    (z_bool : PySem.W.nsIn K mainGlobals "bool" = some none)
    (z_tuple : PySem.W.nsIn K mainGlobals "tuple" = some none)
    (z_len : PySem.W.nsIn K mainGlobals "len" = some none)
    (z_abs : PySem.W.nsIn K mainGlobals "abs" = some none)
    (z_list : PySem.W.nsIn K mainGlobals "list" = some none)
    (z_all : PySem.W.nsIn K mainGlobals "all" = some none)
    (z_sum : PySem.W.nsIn K mainGlobals "sum" = some none)
    (z_sorted : PySem.W.nsIn K mainGlobals "sorted" = some none)
    (z_range : PySem.W.nsIn K mainGlobals "range" = some none)
    (z_enumerate : PySem.W.nsIn K mainGlobals "enumerate" = some none)
    (z_zip : PySem.W.nsIn K mainGlobals "zip" = some none) :
    LamX.LawAtS l w K CX0 7 63 "_law_script" mg fa h := by
  have F_is_whole := fun_mk (st := s_is_whole) l_is_whole c_is_whole k_is_whole
  have b_is_whole := F_is_whole.binds (ps := ["thing"]) fun _ _ _ _ _ _ us hl => match us, hl with | [_], _ => rfl
  have F_is_fraction := fun_mk (st := s_is_fraction) l_is_fraction c_is_fraction k_is_fraction
  have b_is_fraction := F_is_fraction.binds (ps := ["thing"]) fun _ _ _ _ _ _ us hl => match us, hl with | [_], _ => rfl
  have F_shared_divisor := fun_mk (st := s_shared_divisor) l_shared_divisor c_shared_divisor k_shared_divisor
  have b_shared_divisor := F_shared_divisor.binds (ps := ["top", "bottom"]) fun _ _ _ _ _ _ us hl => match us, hl with | [_, _], _ => rfl
  have F_lowest := fun_mk (st := s_lowest) l_lowest c_lowest k_lowest
  have b_lowest := F_lowest.binds (ps := ["top", "bottom"]) fun _ _ _ _ _ _ us hl => match us, hl with | [_, _], _ => rfl
  have F_plus := fun_mk (st := s_plus) l_plus c_plus k_plus
  have b_plus := F_plus.binds (ps := ["one", "other"]) fun _ _ _ _ _ _ us hl => match us, hl with | [_, _], _ => rfl
  have F_minus := fun_mk (st := s_minus) l_minus c_minus k_minus
  have b_minus := F_minus.binds (ps := ["one", "other"]) fun _ _ _ _ _ _ us hl => match us, hl with | [_, _], _ => rfl
  have F_is_fractions := fun_mk (st := s_is_fractions) l_is_fractions c_is_fractions k_is_fractions
  have b_is_fractions := F_is_fractions.binds (ps := ["thing"]) fun _ _ _ _ _ _ us hl => match us, hl with | [_], _ => rfl
  have F_common_bottom := fun_mk (st := s_common_bottom) l_common_bottom c_common_bottom k_common_bottom
  have b_common_bottom := F_common_bottom.binds (ps := ["pairs"]) fun _ _ _ _ _ _ us hl => match us, hl with | [_], _ => rfl
  have F_cleared := fun_mk (st := s_cleared) l_cleared c_cleared k_cleared
  have b_cleared := F_cleared.binds (ps := ["pairs"]) fun _ _ _ _ _ _ us hl => match us, hl with | [_], _ => rfl
  have F_floor_of := fun_mk (st := s_floor_of) l_floor_of c_floor_of k_floor_of
  have b_floor_of := F_floor_of.binds (ps := ["value"]) fun _ _ _ _ _ _ us hl => match us, hl with | [_], _ => rfl
  have F_check_values := fun_mk (st := s_check_values) l_check_values c_check_values k_check_values
  have b_check_values := F_check_values.binds (ps := ["values", "total"]) fun _ _ _ _ _ _ us hl => match us, hl with | [_, _], _ => rfl
  have F_price_of_raising := fun_mk (st := s_price_of_raising) l_price_of_raising c_price_of_raising k_price_of_raising
  have b_price_of_raising := F_price_of_raising.binds (ps := ["value"]) fun _ _ _ _ _ _ us hl => match us, hl with | [_], _ => rfl
  have F_fitted := fun_mk (st := s_fitted) l_fitted c_fitted k_fitted
  have b_fitted := F_fitted.binds (ps := ["values", "total"]) fun _ _ _ _ _ _ us hl => match us, hl with | [_, _], _ => rfl
  have F__law_cell_at := fun_mk (st := s__law_cell_at) l__law_cell_at c__law_cell_at k__law_cell_at
  have b__law_cell_at := F__law_cell_at.binds (ps := ["_law_script", "_law_k"]) fun _ _ _ _ _ _ us hl => match us, hl with | [_, _], _ => rfl
  have F__law_well := fun_mk (st := s__law_well) l__law_well c__law_well k__law_well
  have b__law_well := F__law_well.binds (ps := ["_law_cell"]) fun _ _ _ _ _ _ us hl => match us, hl with | [_], _ => rfl
  have F__law_draw := fun_mk (st := s__law_draw) l__law_draw c__law_draw k__law_draw
  have b__law_draw := F__law_draw.binds (ps := ["_law_well_here", "_law_many"]) fun _ _ _ _ _ _ us hl => match us, hl with | [_, _], _ => rfl
  have F__law_low := fun_mk (st := s__law_low) l__law_low c__law_low k__law_low
  have b__law_low := F__law_low.binds (ps := ["_law_top", "_law_bottom"]) fun _ _ _ _ _ _ us hl => match us, hl with | [_, _], _ => rfl
  have F__law_value := fun_mk (st := s__law_value) l__law_value c__law_value k__law_value
  have b__law_value := F__law_value.binds (ps := ["_law_well_here"]) fun _ _ _ _ _ _ us hl => match us, hl with | [_], _ => rfl
  have F__law_off := fun_mk (st := s__law_off) l__law_off c__law_off k__law_off
  have b__law_off := F__law_off.binds (ps := ["_law_value_here", "_law_word"]) fun _ _ _ _ _ _ us hl => match us, hl with | [_, _], _ => rfl
  have F__law_kept := fun_mk (st := s__law_kept) l__law_kept c__law_kept k__law_kept
  have b__law_kept := F__law_kept.binds (ps := ["_law_value_here", "_law_word", "_law_price"]) fun _ _ _ _ _ _ us hl => match us, hl with | [_, _, _], _ => rfl
  have F__law_no_better := fun_mk (st := s__law_no_better) l__law_no_better c__law_no_better k__law_no_better
  have b__law_no_better := F__law_no_better.binds (ps := ["_law_values", "_law_words", "_law_well_here"]) fun _ _ _ _ _ _ us hl => match us, hl with | [_, _, _], _ => rfl
  have F__law_right := fun_mk (st := s__law_right) l__law_right c__law_right k__law_right
  have b__law_right := F__law_right.binds (ps := ["_law_values", "_law_sum_due"]) fun _ _ _ _ _ _ us hl => match us, hl with | [_, _], _ => rfl
  have F_law := fun_mk (st := s_law) l_law c_law k_law
  have b_law := F_law.binds (ps := ["_law_script"]) fun _ _ _ _ _ _ us hl => match us, hl with | [_], _ => rfl
  have F_bgr : FunC K "by_greatest_rest" s_by_greatest_rest f_bgr (PySem.W.fnOf "by_greatest_rest" "by_greatest_rest" (defArgs s_by_greatest_rest) (defBody s_by_greatest_rest) (defScope s_by_greatest_rest) .none kV_bgr dc_bgr pm_bgr an_bgr (.ref c_bgr) ct_bgr) c_bgr := ⟨_, _, _, _, _, _, _, _, rfl, l_bgr, cd_bgr⟩
  have b_bgr : Binds K (PySem.W.fnOf "by_greatest_rest" "by_greatest_rest" (defArgs s_by_greatest_rest) (defBody s_by_greatest_rest) (defScope s_by_greatest_rest) .none kV_bgr dc_bgr pm_bgr an_bgr (.ref c_bgr) ct_bgr) ["values"] [] := .all fun us hl => match us, hl with | [_], _ => rfl
  have T_ONE : ∀ H, SqT K H A_ONE [V.int 1, V.int 1] := fun H => .inr ⟨_, _, _, t_ONE, rfl, rfl, (by show 2 ≤ sizeLine; decide), (.cons ⟨_, rfl⟩ (.cons ⟨_, rfl⟩ .nil))⟩
  have gO := PySem.W.mg_of X G g_ONE
  have gMV := PySem.W.mg_of X G g_MOST_VALUES
  have gFT := PySem.W.mg_of X G g_FARTHEST_TOTAL
  have z : Zs mg := ⟨PySem.W.mg_none_of X G z_isinstance, PySem.W.mg_none_of X G z_int, PySem.W.mg_none_of X G z_bool, PySem.W.mg_none_of X G z_tuple, PySem.W.mg_none_of X G z_len, PySem.W.mg_none_of X G z_abs, PySem.W.mg_none_of X G z_list, PySem.W.mg_none_of X G z_all, PySem.W.mg_none_of X G z_sum, PySem.W.mg_none_of X G z_sorted, PySem.W.mg_none_of X G z_range, PySem.W.mg_none_of X G z_enumerate, PySem.W.mg_none_of X G z_zip⟩
  have e := hfa.symm.trans (PySem.W.mg_of X G a_law)
  cases e
  refine ⟨PySem.W.fnOf "law" "law" (defArgs s_law) (defBody s_law) (defScope s_law) .none kV_law dc_law pm_law an_law cd_law ct_law, [(c_bgr, P_bgr)], spLaw K P_bgr, fun p hp => by rw [List.mem_singleton.mp hp]; exact hT_bgr, fun p hp => by rw [List.mem_singleton.mp hp]; exact nT_bgr, fun p hp => by rw [List.mem_singleton.mp hp]; exact PySem.W.codeHd_of_K X hd_bgr, fun s v => .of_eq rfl, fun H a ns hl _ hH hS => ⟨a, ns, rfl, hS, hl, tabs0 (hH _ List.mem_cons_self), fun _ => rfl⟩, fun base _ _ TBs => ?_⟩
  have TB := TBs _ List.mem_cons_self
  have c_is_whole : Cal l.prog w K mg base 1 "is_whole" ["thing"] _ := ⟨f_is_whole, _, PySem.W.mg_of X G a_is_whole, k_is_whole, b_is_whole, ok_is_whole (k := 0) F_is_whole z⟩
  have c_shared_divisor : Cal l.prog w K mg base 1 "shared_divisor" ["top", "bottom"] _ := ⟨f_shared_divisor, _, PySem.W.mg_of X G a_shared_divisor, k_shared_divisor, b_shared_divisor, ok_shared_divisor (k := 0) F_shared_divisor z⟩
  have c_lowest : Cal l.prog w K mg base 2 "lowest" ["top", "bottom"] _ := ⟨f_lowest, _, PySem.W.mg_of X G a_lowest, k_lowest, b_lowest, ok_lowest F_lowest c_shared_divisor⟩
  have c_plus : Cal l.prog w K mg base 3 "plus" ["one", "other"] _ := ⟨f_plus, _, PySem.W.mg_of X G a_plus, k_plus, b_plus, ok_plus F_plus c_lowest⟩
  have c_minus : Cal l.prog w K mg base 3 "minus" ["one", "other"] _ := ⟨f_minus, _, PySem.W.mg_of X G a_minus, k_minus, b_minus, ok_minus F_minus c_lowest⟩
  have c_is_fraction : Cal l.prog w K mg base 2 "is_fraction" ["thing"] _ := ⟨f_is_fraction, _, PySem.W.mg_of X G a_is_fraction, k_is_fraction, b_is_fraction, ok_is_fraction F_is_fraction z c_is_whole c_shared_divisor⟩
  have c_is_fractions : Cal l.prog w K mg base 3 "is_fractions" ["thing"] _ := ⟨f_is_fractions, _, PySem.W.mg_of X G a_is_fractions, k_is_fractions, b_is_fractions, ok_is_fractions F_is_fractions z c_is_fraction⟩
  have c_common_bottom : Cal l.prog w K mg base 2 "common_bottom" ["pairs"] _ := ⟨f_common_bottom, _, PySem.W.mg_of X G a_common_bottom, k_common_bottom, b_common_bottom, ok_common_bottom F_common_bottom z c_shared_divisor⟩
  have c_cleared : Cal l.prog w K mg base 3 "cleared" ["pairs"] _ := ⟨f_cleared, _, PySem.W.mg_of X G a_cleared, k_cleared, b_cleared, ok_cleared F_cleared c_common_bottom⟩
  have c_floor_of : Cal l.prog w K mg base 1 "floor_of" ["value"] _ := ⟨f_floor_of, _, PySem.W.mg_of X G a_floor_of, k_floor_of, b_floor_of, ok_floor_of (k := 0) F_floor_of⟩
  have c_check_values : Cal l.prog w K mg base 4 "check_values" ["values", "total"] _ := ⟨f_check_values, _, PySem.W.mg_of X G a_check_values, k_check_values, b_check_values, ok_check_values F_check_values z _ _ gMV gFT c_floor_of c_is_fractions c_is_whole⟩
  have c_by_greatest_rest : Cal l.prog w K mg base 4 "by_greatest_rest" ["values"] _ := ⟨f_bgr, _, PySem.W.mg_of X G a_bgr, k_bgr, b_bgr, ok_by_greatest_rest F_bgr z TB c_cleared⟩
  have c_price_of_raising : Cal l.prog w K mg base 4 "price_of_raising" ["value"] _ := ⟨f_price_of_raising, _, PySem.W.mg_of X G a_price_of_raising, k_price_of_raising, b_price_of_raising, ok_price_of_raising gO T_ONE F_price_of_raising c_floor_of c_minus c_plus⟩
  have c_fitted : Cal l.prog w K mg base 5 "fitted" ["values", "total"] _ := ⟨f_fitted, _, PySem.W.mg_of X G a_fitted, k_fitted, b_fitted, ok_fitted gO T_ONE F_fitted z c_check_values c_floor_of c_by_greatest_rest c_price_of_raising⟩
  have c__law_cell_at : Cal l.prog w K mg base 1 "_law_cell_at" ["_law_script", "_law_k"] _ := ⟨f__law_cell_at, _, PySem.W.mg_of X G a__law_cell_at, k__law_cell_at, b__law_cell_at, ok_cell (k := 0) F__law_cell_at z.len⟩
  have c__law_well : Cal l.prog w K mg base 1 "_law_well" ["_law_cell"] _ := ⟨f__law_well, _, PySem.W.mg_of X G a__law_well, k__law_well, b__law_well, ok_well (k := 0) F__law_well z.int⟩
  have c__law_draw : Cal l.prog w K mg base 1 "_law_draw" ["_law_well_here", "_law_many"] _ := ⟨f__law_draw, _, PySem.W.mg_of X G a__law_draw, k__law_draw, b__law_draw, ok_draw (k := 0) F__law_draw⟩
  have c__law_low : Cal l.prog w K mg base 1 "_law_low" ["_law_top", "_law_bottom"] _ := ⟨f__law_low, _, PySem.W.mg_of X G a__law_low, k__law_low, b__law_low, ok__law_low (k := 0) F__law_low z⟩
  have c__law_value : Cal l.prog w K mg base 2 "_law_value" ["_law_well_here"] _ := ⟨f__law_value, _, PySem.W.mg_of X G a__law_value, k__law_value, b__law_value, ok__law_value F__law_value c__law_draw c__law_low⟩
  have c__law_off : Cal l.prog w K mg base 1 "_law_off" ["_law_value_here", "_law_word"] _ := ⟨f__law_off, _, PySem.W.mg_of X G a__law_off, k__law_off, b__law_off, ok__law_off (k := 0) F__law_off z⟩
  have c__law_kept : Cal l.prog w K mg base 2 "_law_kept" ["_law_value_here", "_law_word", "_law_price"] _ := ⟨f__law_kept, _, PySem.W.mg_of X G a__law_kept, k__law_kept, b__law_kept, ok__law_kept F__law_kept c__law_off⟩
  have c__law_no_better : Cal l.prog w K mg base 2 "_law_no_better" ["_law_values", "_law_words", "_law_well_here"] _ := ⟨f__law_no_better, _, PySem.W.mg_of X G a__law_no_better, k__law_no_better, b__law_no_better, ok__law_no_better F__law_no_better z c__law_draw c__law_off⟩
  have c__law_right : Cal l.prog w K mg base 6 "_law_right" ["_law_values", "_law_sum_due"] _ := ⟨f__law_right, _, PySem.W.mg_of X G a__law_right, k__law_right, b__law_right, ok__law_right F__law_right z c_fitted c__law_low c__law_kept⟩
  exact ok_law F_law z c__law_cell_at c__law_well c__law_draw c__law_value c__law_no_better c__law_right

end E1

open PySem PySem.W PyProof.Rows
set_option maxRecDepth 100000 in
set_option maxHeartbeats 0 in
theorem PySem.Challenge.cw_echobound_k84_whole_words_fitted_holds : PySem.Challenge.rw_echobound_k84_whole_words_fitted.Holds := by
  w_on; o_law; km_head; (case hw => w_witness2)
  k_fill
  refine LamX.walk_ofTs (l := PySem.Challenge.rw_echobound_k84_whole_words_fitted) (n := 63) (k := 7) (x := "_law_script") (CX := fun _ => L2.CX0) rfl (by decide) rfl ⟨rfl, by decide, by decide⟩ (fun w h Y => PySem.W.km_in_of Y) ?F (fun _ _ _ _ _ h => h)
  case F =>
    intro w mg fa h Y KX G hmg
    refine' E1.all_mk KX G hmg ?a_is_whole ?l_is_whole ?c_is_whole ?k_is_whole ?a_is_fraction ?l_is_fraction ?c_is_fraction ?k_is_fraction ?a_shared_divisor ?l_shared_divisor ?c_shared_divisor ?k_shared_divisor ?a_lowest ?l_lowest ?c_lowest ?k_lowest ?a_plus ?l_plus ?c_plus ?k_plus ?a_minus ?l_minus ?c_minus ?k_minus ?a_is_fractions ?l_is_fractions ?c_is_fractions ?k_is_fractions ?a_common_bottom ?l_common_bottom ?c_common_bottom ?k_common_bottom ?a_cleared ?l_cleared ?c_cleared ?k_cleared ?a_floor_of ?l_floor_of ?c_floor_of ?k_floor_of ?a_check_values ?l_check_values ?c_check_values ?k_check_values ?a_price_of_raising ?l_price_of_raising ?c_price_of_raising ?k_price_of_raising ?a_fitted ?l_fitted ?c_fitted ?k_fitted ?a__law_cell_at ?l__law_cell_at ?c__law_cell_at ?k__law_cell_at ?a__law_well ?l__law_well ?c__law_well ?k__law_well ?a__law_draw ?l__law_draw ?c__law_draw ?k__law_draw ?a__law_low ?l__law_low ?c__law_low ?k__law_low ?a__law_value ?l__law_value ?c__law_value ?k__law_value ?a__law_off ?l__law_off ?c__law_off ?k__law_off ?a__law_kept ?l__law_kept ?c__law_kept ?k__law_kept ?a__law_no_better ?l__law_no_better ?c__law_no_better ?k__law_no_better ?a__law_right ?l__law_right ?c__law_right ?k__law_right ?a_law ?l_law ?c_law ?k_law ?a_bgr ?l_bgr ?cd_bgr ?k_bgr ?lc_bgr ?v11_bgr ?hd_bgr ?nT_bgr ?hT_bgr ?g_MOST_VALUES ?g_FARTHEST_TOTAL ?g_ONE ?t_ONE ?z_isinstance ?z_int ?z_bool ?z_tuple ?z_len ?z_abs ?z_list ?z_all ?z_sum ?z_sorted ?z_range ?z_enumerate ?z_zip
    (case a_is_whole => k_is)
    (case l_is_whole => k_is)
    (case c_is_whole => k_is)
    (case k_is_whole => k_is)
    (case a_is_fraction => k_is)
    (case l_is_fraction => k_is)
    (case c_is_fraction => k_is)
    (case k_is_fraction => k_is)
    (case a_shared_divisor => k_is)
    (case l_shared_divisor => k_is)
    (case c_shared_divisor => k_is)
    (case k_shared_divisor => k_is)
    (case a_lowest => k_is)
    (case l_lowest => k_is)
    (case c_lowest => k_is)
    (case k_lowest => k_is)
    (case a_plus => k_is)
    (case l_plus => k_is)
    (case c_plus => k_is)
    (case k_plus => k_is)
    (case a_minus => k_is)
    (case l_minus => k_is)
    (case c_minus => k_is)
    (case k_minus => k_is)
    (case a_is_fractions => k_is)
    (case l_is_fractions => k_is)
    (case c_is_fractions => k_is)
    (case k_is_fractions => k_is)
    (case a_common_bottom => k_is)
    (case l_common_bottom => k_is)
    (case c_common_bottom => k_is)
    (case k_common_bottom => k_is)
    (case a_cleared => k_is)
    (case l_cleared => k_is)
    (case c_cleared => k_is)
    (case k_cleared => k_is)
    (case a_floor_of => k_is)
    (case l_floor_of => k_is)
    (case c_floor_of => k_is)
    (case k_floor_of => k_is)
    (case a_check_values => k_is)
    (case l_check_values => k_is)
    (case c_check_values => k_is)
    (case k_check_values => k_is)
    (case a_price_of_raising => k_is)
    (case l_price_of_raising => k_is)
    (case c_price_of_raising => k_is)
    (case k_price_of_raising => k_is)
    (case a_fitted => k_is)
    (case l_fitted => k_is)
    (case c_fitted => k_is)
    (case k_fitted => k_is)
    (case a__law_cell_at => k_is)
    (case l__law_cell_at => k_is)
    (case c__law_cell_at => k_is)
    (case k__law_cell_at => k_is)
    (case a__law_well => k_is)
    (case l__law_well => k_is)
    (case c__law_well => k_is)
    (case k__law_well => k_is)
    (case a__law_draw => k_is)
    (case l__law_draw => k_is)
    (case c__law_draw => k_is)
    (case k__law_draw => k_is)
    (case a__law_low => k_is)
    (case l__law_low => k_is)
    (case c__law_low => k_is)
    (case k__law_low => k_is)
    (case a__law_value => k_is)
    (case l__law_value => k_is)
    (case c__law_value => k_is)
    (case k__law_value => k_is)
    (case a__law_off => k_is)
    (case l__law_off => k_is)
    (case c__law_off => k_is)
    (case k__law_off => k_is)
    (case a__law_kept => k_is)
    (case l__law_kept => k_is)
    (case c__law_kept => k_is)
    (case k__law_kept => k_is)
    (case a__law_no_better => k_is)
    (case l__law_no_better => k_is)
    (case c__law_no_better => k_is)
    (case k__law_no_better => k_is)
    (case a__law_right => k_is)
    (case l__law_right => k_is)
    (case c__law_right => k_is)
    (case k__law_right => k_is)
    (case a_law => k_is)
    (case l_law => k_is)
    (case c_law => k_is)
    (case k_law => k_is)
    (case a_bgr => k_is)
    (case l_bgr => k_is)
    (case cd_bgr => k_is)
    (case k_bgr => k_is)
    (case lc_bgr => k_is)
    (case v11_bgr => rfl)
    (case hd_bgr => first | kernel_rfl | rfl | decide +kernel)
    (case nT_bgr => first | kernel_rfl | rfl | decide +kernel)
    (case hT_bgr => exact PySem.W.km_tabs_of Y _ (by first | k_mem | decide | simp))
    (case g_MOST_VALUES => k_is)
    (case g_FARTHEST_TOTAL => k_is)
    (case g_ONE => k_is)
    (case t_ONE => k_is)
    (case z_isinstance => k_is)
    (case z_int => k_is)
    (case z_bool => k_is)
    (case z_tuple => k_is)
    (case z_len => k_is)
    (case z_abs => k_is)
    (case z_list => k_is)
    (case z_all => k_is)
    (case z_sum => k_is)
    (case z_sorted => k_is)
    (case z_range => k_is)
    (case z_enumerate => k_is)
    (case z_zip => k_is)
