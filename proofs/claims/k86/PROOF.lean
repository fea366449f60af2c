import PyProof.Rows.All
import Wide.All
import OpenK.AllK
import Wide.FinOn
import HandS.Codes
import HandS.ForMost
import HandS.Wide
import HandS.Zip
import HandS.IsInst
import HandS.Defaults
import HandS.Style
import HandS.Star
import HandS.Walk
import HandS.More
import OpenK.KEqL
import HandS.Flow
import HandS.TryOnly
import HandS.Conv
import HandS.WideBits
import KE.SortData
import PySem.Challenge.RW_echobound_k86_whole_still_pairs_by_their
set_option Elab.async false
set_option linter.all false
set_option maxRecDepth 100000
set_option maxHeartbeats 4000000
namespace E1
open PySem PySem.Spec PyProof.Rows L2
/-! ### a def of the text that is called by its name -/
def Cal (P : Program) (w : World) (K : PySem.W.Frag) (mg : Str → Option Value) (base : Heap) (k : Nat) (x : Str) (ps : List Str) (sp : Sp) : Prop :=
  ∃ (f : Addr) (fd : FuncData), mg x = some (.ref f) ∧ PySem.W.keepIn K (.ref f) = true ∧ Binds K fd ps [] ∧ FnOk P w K mg base CX0 k f fd ps sp
theorem pe_cal {X : Cx} {k j : Nat} {x : Str} {ps : List Str} {sp : Sp} {e : Expr} {es : List Expr} {t : TA} {p pos : Pos} (c : Cal X.prog X.w X.K X.mg X.base k x ps sp) (hr : Room j X.A) (ha : PA X (e :: es) t) (hle : k ≤ j := by decide) (hg : Gl X x := by rfl)
    (hdb : (x == ("__debug__" : Str)) = false := by decide) (he : starEach (e :: es) X.env = (false, eval e X.env) :: starEach es X.env := by rfl) (hpl : (backTo pos (starEach es X.env)).any (·.1) = false := by rfl) :
    PE X (.Call (.Name x p) (e :: es) [] pos) (tCall sp [] E0 t) := by
  obtain ⟨f, fd, h1, h2, h3, h4⟩ := c
  exact pe_call h4 (hr.mono hle) hg h1 h2 h3 .nil pass0 ha hdb he hpl
/-! ### heaps -/
def SameBut (a : Addr) (H H' : Hp) : Prop := ∀ b o, b ≠ a → H b = some o → H' b = some o
theorem SameBut.refl (a : Addr) (H : Hp) : SameBut a H H := fun _ _ _ h => h
theorem SameBut.trans {a : Addr} {H H1 H2 : Hp} (x : SameBut a H H1) (y : SameBut a H1 H2) : SameBut a H H2 := fun b o n h => y b o n (x b o n h)
theorem SameBut.of {a : Addr} {H H' : Hp} (s : Same H H') : SameBut a H H' := fun b o _ h => s b o h
theorem SameBut.upd {a : Addr} {H : Hp} {o : HO} : SameBut a H (upd H a o) := fun b _ n h => by
  rw [upd_ne n]
  exact h
theorem same_new {H : Hp} {p : Addr} {o : HO} (h : H p = none) : Same H (upd H p o) := fun b x e => by
  rw [upd_ne (ne_of_none e h)]
  exact e
theorem Same.tup {K : PySem.W.Frag} {H H' : Hp} {a : Addr} {xs : List V} (e : Same H H') (h : SqT K H a xs) : SqT K H' a xs := by
  rcases h with (h | ⟨o, h⟩) | h
  · exact .inl (.inl (e _ _ h))
  · exact .inl (.inr ⟨o, e _ _ h⟩)
  · exact .inr h
theorem a0 {α : Type} {x : α} {l : List α} : atI (x :: l) 0 = some x := atI_nat (j := 0) rfl
theorem a1 {α : Type} {x y : α} {l : List α} : atI (x :: y :: l) 1 = some y := atI_nat (j := 1) rfl
theorem a2 {α : Type} {x y z : α} {l : List α} : atI (x :: y :: z :: l) 2 = some z := atI_nat (j := 2) rfl
theorem toB {p : Prop} [Decidable p] (h : decide p = true) : p := of_decide_eq_true h
theorem toNB {p : Prop} [Decidable p] (h : ¬ decide p = true) : ¬ p := fun z => h (decide_eq_true z)
/-- a well: the digits left, a number that is mixed, how many were mixed (at most c) -/
def WellAt (H : Hp) (a : Addr) (c : Int) : Prop := ∃ x y z : Int, H a = some (.lst [.int x, .int y, .int z]) ∧ 0 ≤ y ∧ y < 2147483647 ∧ 0 ≤ z ∧ z ≤ c
theorem WellAt.mono {H : Hp} {a : Addr} {c d : Int} (h : WellAt H a c) (l : c ≤ d) : WellAt H a d := by
  obtain ⟨x, y, z, e, h1, h2, h3, h4⟩ := h
  exact ⟨x, y, z, e, h1, h2, h3, by omega⟩
theorem WellAt.same {H H' : Hp} {a : Addr} {c : Int} (h : WellAt H a c) (s : Same H H') : WellAt H' a c := by
  obtain ⟨x, y, z, e, h1, h2, h3, h4⟩ := h
  exact ⟨x, y, z, s _ _ e, h1, h2, h3, h4⟩
theorem WellAt.but {H H' : Hp} {a b : Addr} {c : Int} (h : WellAt H a c) (s : SameBut b H H') (n : a ≠ b) : WellAt H' a c := by
  obtain ⟨x, y, z, e, h1, h2, h3, h4⟩ := h
  exact ⟨x, y, z, s _ _ n e, h1, h2, h3, h4⟩
/-! ### promises of the law's helpers -/
def spCell (K : PySem.W.Frag) : Sp := fun vs H Q _ => ∃ (a : Addr) (ns : List Int) (k : Nat), vs = [.ref a, .int k] ∧ SqL K H a (ns.map V.int) ∧ Q (.int (ns.getD k 0)) H
def spWell : Sp := fun vs H Q _ => ∃ c : Int, vs = [.int c] ∧ ∀ p : Addr, H p = none → ∀ H', Same H H' → WellAt H' p 0 → Q (.ref p) H'
/-- a number from 0 to below m; the well has at most one more -/
def spDraw : Sp := fun vs H Q _ => ∃ (a : Addr) (c m : Int), vs = [.ref a, .int m] ∧ WellAt H a c ∧ c ≤ 1000000000 ∧ 0 < m ∧ m.natAbs < 2 ^ 9000 ∧
  ∀ (r : Int) (H' : Hp), 0 ≤ r → r < m → SameBut a H H' → (∀ b, H b = none → H' b = none) → WellAt H' a (c + 1) → Q (.int r) H'
def topS (i : Nat) : Stmt := PySem.Challenge.pw_echobound_k86_whole_still_pairs_by_their.main.body.getD i (.Pass ⟨0, 0, 0, 0⟩)
abbrev s_is_whole : Stmt := topS 8
abbrev s_is_fraction : Stmt := topS 9
abbrev s_shared_divisor : Stmt := topS 10
abbrev s_lowest : Stmt := topS 11
abbrev s_plus : Stmt := topS 12
abbrev s_minus : Stmt := topS 13
abbrev s_times : Stmt := topS 14
abbrev s_divided : Stmt := topS 15
abbrev s_size_of : Stmt := topS 16
abbrev s_under : Stmt := topS 17
abbrev s_is_place : Stmt := topS 19
abbrev s_is_fractions : Stmt := topS 21
abbrev s_common_bottom : Stmt := topS 22
abbrev s_cleared : Stmt := topS 23
abbrev s_is_wanted : Stmt := topS 27
abbrev s_is_still_pair : Stmt := topS 28
abbrev s_numbers_near : Stmt := topS 29
abbrev s_far_off : Stmt := topS 30
abbrev s_nearest_still : Stmt := topS 31
abbrev s_is_bottom : Stmt := topS 33
abbrev s_check_bottom : Stmt := topS 34
abbrev s_is_long : Stmt := topS 37
abbrev s_stepped_down : Stmt := topS 38
abbrev s_ladder_by_fractions : Stmt := topS 39
abbrev s_shortened : Stmt := topS 40
abbrev s_numbers_stepped_down : Stmt := topS 41
abbrev s_ladder_by_numbers : Stmt := topS 42
abbrev s_ladder : Stmt := topS 43
abbrev s__law_cell_at : Stmt := topS 45
abbrev s__law_well : Stmt := topS 46
abbrev s__law_draw : Stmt := topS 47
abbrev s__law_low : Stmt := topS 48
abbrev s__law_in : Stmt := topS 49
abbrev s__law_still : Stmt := topS 50
abbrev s__law_near : Stmt := topS 51
abbrev s_law : Stmt := topS 52
section
variable {P : Program} {w : World} {K : PySem.W.Frag} {mg : Str → Option Value} {base : Heap}
end
end E1

namespace E1
open PySem PySem.Spec PyProof.Rows L2
/-! ### sorted of things that read as data -/
section
open PySem.W
theorem each_rel {δ : Type} : ∀ {ps : List (V × δ)} {us : List Value}, Vals (ps.map (·.1)) us → EachIs (fun v (b : V × δ) => RelV b.1 v) us ps
  | [], _, .nil => .nil
  | _ :: _, _, .cons r t => .cons r (each_rel t)
theorem rel_each {δ : Type} : ∀ {us : List Value} {ps : List (V × δ)}, EachIs (fun v (b : V × δ) => RelV b.1 v) us ps → Vals (ps.map (·.1)) us
  | _, _, .nil => .nil
  | _, _, .cons r t => .cons r (rel_each t)
theorem each_reads {δ : Type} {X : Cx} {pins : List (Addr × Obj)} {σ : L2.St} {H : Hp} {s : Shared} (I : Inv X pins σ H s) (enc : δ → PyData) : ∀ {ps : List (V × δ)} {us : List Value}, Vals (ps.map (·.1)) us → (∀ p ∈ ps, Dp X.K H p.1 (enc p.2)) → EachIs (fun v (b : V × δ) => ∃ as, Reads s.heap v (enc b.2) as) us ps
  | [], _, .nil, _ => .nil
  | p :: _, _, .cons r t, h => .cons (Dp.reads I _ _ _ (h p List.mem_cons_self) r) (each_reads I enc t fun q hq => h q (List.mem_cons_of_mem _ hq))
/-- sorted(xs): xs tuples that read as enc of something, le their order -/
def rSortedE {δ : Type} (K : PySem.W.Frag) (enc : δ → PyData) (le : δ → δ → Bool) : List V → Hp → VK → Prop := fun vs H Q => ∃ (a : Addr) (ps : List (V × δ)), vs = [V.ref a] ∧ SqL K H a (ps.map (·.1)) ∧ (∀ p ∈ ps, Dp K H p.1 (enc p.2)) ∧
  ∀ (qs : List (V × δ)) (r : Addr), qs.Perm ps → qs.Pairwise (fun p q => le p.2 q.2 = true) → H r = none → Q (.ref r) (upd H r (.lst (qs.map (·.1))))
structure OrdE {δ : Type} (enc : δ → PyData) (le : δ → δ → Bool) : Prop where
  al : ∀ x y, alike (enc x) (enc y) = true
  tu : ∀ x, ∃ h t, enc x = .tuple (h :: t)
  dp : ∀ x, (enc x).depth ≤ 60
  eq : ∀ x y, dataLt (enc y) (enc x) = !le x y
  tr : ∀ x y z, le x y = true → le y z = true → le x z = true
  to : ∀ x y, (le x y || le y x) = true
theorem cr_sortedE {X : Cx} {δ : Type} {enc : δ → PyData} {le : δ → δ → Bool} (hu : X.A.units + 64 < cLine) (O : OrdE enc le) : CallR X (.builtin "sorted") (rSortedE X.K enc le) := by
  intro pins s σ H vs us Q I r h
  obtain ⟨a, ps, rfl, hs, hd, q⟩ := h
  obtain ⟨its, rv, hl, hz⟩ := I.list hs
  have e1 : us = [Value.ref a] := Vals.ref1 r
  subst e1
  have eqLe : (dataLe false fun p : V × δ => enc p.2) = fun p q => le p.2 q.2 := by
    rw [dataLe_eq]
    funext p q
    show (!dataLt (enc q.2) (enc p.2)) = le p.2 q.2
    rw [O.eq, Bool.not_not]
  have len : ps.length ≤ sizeLine := by
    rw [List.length_map] at hz
    exact hz
  refine sorted_data (R := fun v (b : V × δ) => RelV b.1 v) (enc := fun p : V × δ => enc p.2) hl.isList (each_rel rv) (each_reads I enc rv hd) (AllAlike.of fun x y => O.al x.2 y.2) (Sortable.tuples fun x => O.tu x.2) len (fun b _ => ?_) (fun out _ each => ?_)
  · have := O.dp b.2
    omega
  · rw [eqLe] at each
    obtain ⟨ep, at_⟩ := PyProof.Rows.sortedAll_at s.heap its out.toArray
    have pm := List.mergeSort_perm ps (fun p q => le p.2 q.2)
    have pw := List.pairwise_mergeSort (le := fun p q : V × δ => le p.2 q.2) (fun x y z h1 h2 => O.tr _ _ _ h1 h2) (fun x y => O.to _ _) ps
    refine ⟨.ref _, upd H (s.heap.objs.size + 1) (.lst ((ps.mergeSort fun p q => le p.2 q.2).map (·.1))), ?_, rfl, q _ _ pm pw (I.hok.fresh (Nat.le_succ _))⟩
    refine I.laid (t' := s.toks) (fun _ _ old => PyProof.Rows.sortedAll_old old) (Nat.le_succ _) ⟨?_, out, ep, rel_each each, at_⟩
    rw [List.length_map, pm.length_eq]
    exact len
end
/-! ### the two orders -/
def wS (b : Bool) : Str := if b = true then "two" else "one"
def enc3 (p : Int × Int × Int) : PyData := .tuple [.int p.1, .int p.2.1, .int p.2.2]
def encW (p : Int × Int × Bool) : PyData := .tuple [.int p.1, .int p.2.1, .str (wS p.2.2)]
def le3 (p q : Int × Int × Int) : Bool := decide (p.1 < q.1 ∨ p.1 = q.1 ∧ (p.2.1 < q.2.1 ∨ p.2.1 = q.2.1 ∧ p.2.2 ≤ q.2.2))
def leW (p q : Int × Int × Bool) : Bool := decide (p.1 < q.1 ∨ p.1 = q.1 ∧ (p.2.1 < q.2.1 ∨ p.2.1 = q.2.1 ∧ (p.2.2 = true → q.2.2 = true)))
section
open PySem.W
theorem dLt_int (x y : Int) : dataLt (.int x) (.int y) = decide (x < y) := by
  have h := congrFun (congrFun (dataLe_int (fun n : Int => n)) y) x
  rw [dataLe_eq] at h
  replace h : (!dataLt (.int x) (.int y)) = decide (y ≤ x) := h
  by_cases c : x < y
  · rw [decide_eq_false (show ¬ y ≤ x by omega)] at h
    rw [decide_eq_true c]
    cases hb : dataLt (.int x) (.int y) with
    | true => rfl
    | false => rw [hb] at h; cases h
  · rw [decide_eq_true (show y ≤ x by omega)] at h
    rw [decide_eq_false c]
    cases hb : dataLt (.int x) (.int y) with
    | false => rfl
    | true => rw [hb] at h; cases h
theorem eqv_int (x y : Int) : PyData.eqv (.int x) (.int y) = decide (x = y) := by
  simp only [PyData.eqv]
  by_cases h : x = y
  · rw [decide_eq_true h, h]
    simp
  · rw [decide_eq_false h]
    simpa using h
theorem row3 {x y x' y' : Int} {z z' : PyData} (h : alike z z' = true) : dataLt (.tuple [.int x, .int y, z]) (.tuple [.int x', .int y', z']) = if x = x' then (if y = y' then (if PyData.eqv z z' = true then false else dataLt z z') else decide (y < y')) else decide (x < x') := by
  show PyProof.Rows.lexLt itemOrd (keyToksAll [.int x, .int y, z]) (keyToksAll [.int x', .int y', z']) = _
  rw [dataLt_cons rfl, dataLt_cons rfl, dataLt_cons h, eqv_int, eqv_int, dLt_int, dLt_int]
  simp only [decide_eq_true_eq]
  rfl
theorem ord3 : OrdE enc3 le3 := by
  refine ⟨fun x y => rfl, fun x => ⟨_, _, rfl⟩, fun x => by simp [enc3, PyData.depth, PyData.depthAll], fun x y => ?_, fun x y z h1 h2 => ?_, fun x y => ?_⟩
  · unfold enc3 le3
    rw [row3 rfl, eqv_int, dLt_int]
    by_cases c1 : y.1 = x.1
    · rw [if_pos c1]
      by_cases c2 : y.2.1 = x.2.1
      · rw [if_pos c2]
        by_cases c3 : y.2.2 = x.2.2
        · rw [if_pos (decide_eq_true c3), decide_eq_true (by omega)]
          rfl
        · rw [if_neg (by simpa using c3)]
          by_cases c4 : y.2.2 < x.2.2
          · rw [decide_eq_true c4, decide_eq_false (by omega)]
            rfl
          · rw [decide_eq_false c4, decide_eq_true (by omega)]
            rfl
      · rw [if_neg c2]
        by_cases c4 : y.2.1 < x.2.1
        · rw [decide_eq_true c4, decide_eq_false (by omega)]
          rfl
        · rw [decide_eq_false c4, decide_eq_true (by omega)]
          rfl
    · rw [if_neg c1]
      by_cases c4 : y.1 < x.1
      · rw [decide_eq_true c4, decide_eq_false (by omega)]
        rfl
      · rw [decide_eq_false c4, decide_eq_true (by omega)]
        rfl
  · unfold le3 at *
    have a := of_decide_eq_true h1
    have b := of_decide_eq_true h2
    exact decide_eq_true (by omega)
  · unfold le3
    rw [Bool.or_eq_true, decide_eq_true_eq, decide_eq_true_eq]
    omega
theorem wS_lt (a b : Bool) : dataLt (.str (wS a)) (.str (wS b)) = (!a && b) := by
  cases a <;> cases b <;> decide +kernel
theorem wS_eqv (a b : Bool) : PyData.eqv (.str (wS a)) (.str (wS b)) = decide (a = b) := by
  cases a <;> cases b <;> decide +kernel
theorem ordW : OrdE encW leW := by
  refine ⟨fun x y => rfl, fun x => ⟨_, _, rfl⟩, fun x => by simp [encW, PyData.depth, PyData.depthAll], fun x y => ?_, fun x y z h1 h2 => ?_, fun x y => ?_⟩
  · unfold encW leW
    rw [row3 rfl, wS_eqv, wS_lt]
    by_cases c1 : y.1 = x.1
    · rw [if_pos c1]
      by_cases c2 : y.2.1 = x.2.1
      · rw [if_pos c2, c1, c2]
        cases y.2.2 <;> cases x.2.2 <;> simp
      · rw [if_neg c2]
        by_cases c4 : y.2.1 < x.2.1
        · rw [decide_eq_true c4, decide_eq_false (by omega)]
          rfl
        · rw [decide_eq_false c4, decide_eq_true (by omega)]
          rfl
    · rw [if_neg c1]
      by_cases c4 : y.1 < x.1
      · rw [decide_eq_true c4, decide_eq_false (by omega)]
        rfl
      · rw [decide_eq_false c4, decide_eq_true (by omega)]
        rfl
  · unfold leW at *
    have a := of_decide_eq_true h1
    have b := of_decide_eq_true h2
    refine decide_eq_true ?_
    rcases a with a | ⟨a1, a | ⟨a2, a3⟩⟩ <;> rcases b with b | ⟨b1, b | ⟨b2, b3⟩⟩
    all_goals first | exact .inl (by omega) | exact .inr ⟨by omega, .inl (by omega)⟩ | exact .inr ⟨by omega, .inr ⟨by omega, fun h => b3 (a3 h)⟩⟩
  · unfold leW
    rw [Bool.or_eq_true, decide_eq_true_eq, decide_eq_true_eq]
    cases x.2.2 <;> cases y.2.2 <;> simp <;> omega
end

end E1

namespace E1
open PySem PySem.Spec PyProof.Rows L2

def CalD (P : Program) (w : World) (K : PySem.W.Frag) (mg : Str → Option Value) (base : Heap) (k : Nat) (x : Str) (ps : List Str) (dvs : List V) (sp : Sp) : Prop :=
  ∃ (f : Addr) (fd : FuncData) (ds : List Value), mg x = some (.ref f) ∧ PySem.W.keepIn K (.ref f) = true ∧ Vals dvs ds ∧ Binds K fd ps ds ∧ FnOk P w K mg base CX0 k f fd ps sp
theorem pe_cald {X : Cx} {k j : Nat} {x : Str} {ps : List Str} {dvs : List V} {sp : Sp} {e : Expr} {es : List Expr} {t : TA} {p pos : Pos} (c : CalD X.prog X.w X.K X.mg X.base k x ps dvs sp) (hr : Room j X.A) (ha : PA X (e :: es) t) (hle : k ≤ j := by decide) (hg : Gl X x := by rfl)
    (hdb : (x == ("__debug__" : Str)) = false := by decide) (he : starEach (e :: es) X.env = (false, eval e X.env) :: starEach es X.env := by rfl) (hpl : (backTo pos (starEach es X.env)).any (·.1) = false := by rfl) :
    PE X (.Call (.Name x p) (e :: es) [] pos) (tCall sp dvs E0 t) := by
  obtain ⟨f, fd, ds, h1, h2, hd, h3, h4⟩ := c
  exact pe_call h4 (hr.mono hle) hg h1 h2 h3 hd pass0 ha hdb he hpl
def CalK (P : Program) (w : World) (K : PySem.W.Frag) (mg : Str → Option Value) (base : Heap) (k : Nat) (x : Str) (ps : List Str) (n : Nat) (ks : List Str) (gV : List V → List V → List V) (sp : Sp) : Prop :=
  ∃ (f : Addr) (fd : FuncData) (g : List Value → List Value → List Value), mg x = some (.ref f) ∧ PySem.W.keepIn K (.ref f) = true ∧ KBn K fd ps n ks g gV ∧ FnOk P w K mg base CX0 k f fd ps sp
theorem pe_calk {X : Cx} {k j n : Nat} {x : Str} {ps ks : List Str} {gV : List V → List V → List V} {sp : Sp} {e : Expr} {es : List Expr} {kws : List Keyword} {t tk : TA} {p pos : Pos} (c : CalK X.prog X.w X.K X.mg X.base k x ps n ks gV sp) (hr : Room j X.A)
    (ha : PA X (e :: es) t) (hkw : PK X kws tk) (hle : k ≤ j := by decide) (hg : Gl X x := by rfl) (hall : (backToKw pos (keywordEach kws X.env)).all (·.1.isSome) = true := by rfl) (hks : (backToKw pos (keywordEach kws X.env)).filterMap (·.1) = ks := by rfl)
    (hdb : (x == ("__debug__" : Str)) = false := by decide) (he : starEach (e :: es) X.env = (false, eval e X.env) :: starEach es X.env := by rfl)
    (hpl : ((backTo pos (starEach (e :: es) X.env)).any (·.1) || (backToKw pos (keywordEach kws X.env)).any (·.1.isNone)) = false := by rfl) :
    PE X (.Call (.Name x p) (e :: es) kws pos) (tCallN n ks.length sp gV E0 t tk) := by
  obtain ⟨f, fd, g, h1, h2, h3, h4⟩ := c
  exact pe_callN h4 (hr.mono hle) hg h1 h2 h3 pass0 ha hkw hall hks hdb he hpl
theorem pe_calk0 {X : Cx} {k j : Nat} {x : Str} {ps ks : List Str} {gV : List V → List V → List V} {sp : Sp} {kws : List Keyword} {tk : TA} {p pos : Pos} (c : CalK X.prog X.w X.K X.mg X.base k x ps 0 ks gV sp) (hr : Room j X.A)
    (hkw : PK X kws tk) (hle : k ≤ j := by decide) (hg : Gl X x := by rfl) (hall : (backToKw pos (keywordEach kws X.env)).all (·.1.isSome) = true := by rfl) (hks : (backToKw pos (keywordEach kws X.env)).filterMap (·.1) = ks := by rfl)
    (hdb : (x == ("__debug__" : Str)) = false := by decide)
    (hpl : ((backTo pos (starEach [] X.env)).any (·.1) || (backToKw pos (keywordEach kws X.env)).any (·.1.isNone)) = false := by rfl) :
    PE X (.Call (.Name x p) [] kws pos) (tCallN 0 ks.length sp gV E0 tNil tk) := by
  obtain ⟨f, fd, g, h1, h2, h3, h4⟩ := c
  refine ⟨fun pins s σ H Q I h => ?_⟩
  refine wpAny_Call_Name_kw (ld_glob I hg h1 ?_ hdb)
  refine PySem.W.callWith_KW0 (h₀ := X.base) I.ok.mod.kin h2 hall (thn (hkw.run pos pins s σ H _ I h) fun ws s2 ⟨zs, H2, I2, rz, l1, l2, q2⟩ => ⟨I2.kIn, ?_⟩) hpl
  rw [hks]
  exact run_fnN (vs := []) (us := []) h4 (hr.mono hle) h3 pass0 I2 .nil rz l1 l2 q2
/-- a class handed to isinstance -/
theorem isiB {K : PySem.W.Frag} {H : Hp} {x : V} {a b : String} {r : Bool} {Q : VK} (ty : TyX K H x (.type a)) (k : kitB a b = some r) (q : Q (.bl r) H) : rIsi K [x, .ty b] H Q :=
  ⟨x, .ty b, .type a, .type b, r, rfl, .ty _, ty, kit_ty k, q⟩
/-- whether a thing is a whole number -/
def WholeIs (K : PySem.W.Frag) (H : Hp) (x : V) (b : Bool) : Prop := (∃ i, x = .int i ∧ b = true) ∨ (∃ c, x = .bl c ∧ b = false) ∨ (b = false ∧ ∃ t : String, TyX K H x (.type t) ∧ kitB t "int" = some false)
theorem WholeIs.int {K : PySem.W.Frag} {H : Hp} (i : Int) : WholeIs K H (.int i) true := .inl ⟨i, rfl, rfl⟩
def spWhole (K : PySem.W.Frag) : Sp := fun vs H Q _ => ∃ (x : V) (b : Bool), vs = [x] ∧ WholeIs K H x b ∧ Q (.bl b) H
/-! ### the mathematics of fractions in lowest terms -/
def gI (t b : Int) : Int := (Int.gcd t b : Nat)
def lowT (t b : Int) : Int := (if b < 0 then -t else t) / gI t b
def lowB (t b : Int) : Int := (if b < 0 then -b else b) / gI t b
theorem gI_neg (t b : Int) : gI (-t) (-b) = gI t b := by
  unfold gI
  rw [Int.neg_gcd, Int.gcd_neg]
theorem gI_pos {t b : Int} (h : b ≠ 0) : 0 < gI t b := by
  have : 0 < Int.gcd t b := Int.gcd_pos_of_ne_zero_right t h
  unfold gI
  omega
theorem gI_le {t b : Int} (h : b ≠ 0) : (gI t b).natAbs ≤ b.natAbs := by
  have d : Int.gcd t b ∣ b.natAbs := Nat.gcd_dvd_right t.natAbs b.natAbs
  have := Nat.le_of_dvd (by omega) d
  unfold gI
  omega
def spShared : Sp := fun vs H Q _ => ∃ t b : Int, vs = [.int t, .int b] ∧ 0 ≤ b ∧ Q (.int (gI t b)) H
def spLow : Sp := fun vs H Q _ => ∃ t b : Int, vs = [.int t, .int b] ∧ b ≠ 0 ∧ b.natAbs < 2 ^ 4000 ∧ ∀ p, H p = none → Q (.ref p) (upd H p (.tup [.int (lowT t b), .int (lowB t b)]))
/-- two fractions at two places; the tops and bottoms told by f and d -/
def spTwo (K : PySem.W.Frag) (pre : Int → Int → Int → Int → Prop) (f d : Int → Int → Int → Int → Int) : Sp := fun vs H Q _ => ∃ (a c : Addr) (t u v x : Int), vs = [.ref a, .ref c] ∧ SqT K H a [.int t, .int u] ∧ SqT K H c [.int v, .int x] ∧
  pre t u v x ∧ 0 < u ∧ 0 < x ∧ t.natAbs < 2 ^ 1900 ∧ u.natAbs < 2 ^ 1900 ∧ v.natAbs < 2 ^ 1900 ∧ x.natAbs < 2 ^ 1900 ∧ ∀ p, H p = none → Q (.ref p) (upd H p (.tup [.int (lowT (f t u v x) (d t u v x)), .int (lowB (f t u v x) (d t u v x))]))
def spUnder (K : PySem.W.Frag) : Sp := fun vs H Q _ => ∃ (a c : Addr) (t u v x : Int), vs = [.ref a, .ref c] ∧ SqT K H a [.int t, .int u] ∧ SqT K H c [.int v, .int x] ∧
  t.natAbs < 2 ^ 1900 ∧ u.natAbs < 2 ^ 1900 ∧ v.natAbs < 2 ^ 1900 ∧ x.natAbs < 2 ^ 1900 ∧ Q (.bl (decide (t * x < v * u))) H
def absI (t : Int) : Int := if t < 0 then -t else t
def spSize (K : PySem.W.Frag) : Sp := fun vs H Q _ => ∃ (a : Addr) (t u : Int), vs = [.ref a] ∧ SqT K H a [.int t, .int u] ∧ ∀ p, H p = none → Q (.ref p) (upd H p (.tup [.int (absI t), .int u]))
def twoT (m : Int) : Int := if m < 0 then 1 else 2 ^ m.toNat
def twoB (m : Int) : Int := if m < 0 then 2 ^ (-m).toNat else 1
def spTwoTo : Sp := fun vs H Q _ => ∃ m : Int, vs = [.int m] ∧ -400 ≤ m ∧ m ≤ 400 ∧ ∀ p, H p = none → Q (.ref p) (upd H p (.tup [.int (twoT m), .int (twoB m)]))
def spIsFrac : Sp := fun vs H Q _ => ∃ (a : Addr) (t u : Int), vs = [.ref a] ∧ H a = some (.tup [.int t, .int u]) ∧ 1 ≤ u ∧ Q (.bl (decide (gI t u = 1))) H
structure Zs (mg : Str → Option Value) : Prop where
  isinstance : mg "isinstance" = none
  int : mg "int" = none
  bool : mg "bool" = none
  tuple : mg "tuple" = none
  len : mg "len" = none
  abs : mg "abs" = none
  list : mg "list" = none
  all : mg "all" = none
  range : mg "range" = none
  max : mg "max" = none
  sorted : mg "sorted" = none
  zip : mg "zip" = none

theorem kit2 {K : PySem.W.Frag} {t a b : String} {r1 r2 : Bool} (h1 : kitB t a = some r1) (h2 : kitB t b = some r2) : PySem.W.kitAny K (.type t) [.type a, .type b] = some (r1 || r2) := by
  refine kitAny_cons (kit_ty h1) (fun e => ?_) (fun e => ?_)
  · subst e
    refine kitAny_cons (kit_ty h2) (fun e => ?_) (fun e => ?_)
    · subst e
      rfl
    · subst e
      rfl
  · subst e
    rfl
/-- a thing that is no list and no tuple -/
inductive Flat : V → Prop where
  | int (i : Int) : Flat (.int i)
  | bl (b : Bool) : Flat (.bl b)
  | str (s : Str) : Flat (.str s)
  | non : Flat .non
/-- alike at a depth below n -/
def Al (H : Hp) : Nat → V → V → Prop
  | 0, _, _ => False
  | n + 1, x, y => (x = y ∧ Flat x) ∨ ∃ a c xs ys, x = .ref a ∧ y = .ref c ∧ xs.length = ys.length ∧ xs.length ≤ 1000 ∧ (∀ (i : Nat) u v, xs[i]? = some u → ys[i]? = some v → Al H n u v) ∧
      ((H a = some (.tup xs) ∧ H c = some (.tup ys)) ∨ (H a = some (.lst xs) ∧ H c = some (.lst ys)))
theorem Al.same {H H' : Hp} (s : Same H H') : ∀ (n : Nat) (x y : V), Al H n x y → Al H' n x y
  | 0, _, _, h => h
  | n + 1, x, y, h => by
    rcases h with h | ⟨a, c, xs, ys, e1, e2, l1, l2, al, hk⟩
    · exact .inl h
    · refine .inr ⟨a, c, xs, ys, e1, e2, l1, l2, fun i u v h1 h2 => Al.same s n u v (al i u v h1 h2), ?_⟩
      rcases hk with ⟨h1, h2⟩ | ⟨h1, h2⟩
      · exact .inl ⟨s _ _ h1, s _ _ h2⟩
      · exact .inr ⟨s _ _ h1, s _ _ h2⟩
theorem Al.more {H : Hp} : ∀ (n : Nat) (x y : V), Al H n x y → Al H (n + 1) x y
  | 0, _, _, h => False.elim h
  | n + 1, x, y, h => by
    rcases h with h | ⟨a, c, xs, ys, e1, e2, l1, l2, al, hk⟩
    · exact .inl h
    · exact .inr ⟨a, c, xs, ys, e1, e2, l1, l2, fun i u v h1 h2 => Al.more n u v (al i u v h1 h2), hk⟩
theorem Al.int {H : Hp} {n : Nat} (i : Int) : Al H (n + 1) (.int i) (.int i) := .inl ⟨rfl, .int i⟩
theorem Al.ints {H : Hp} {n : Nat} {a c : Addr} {ns : List Int} (hl : ns.length ≤ 1000) (h1 : H a = some (.lst (ns.map V.int))) (h2 : H c = some (.lst (ns.map V.int))) : Al H (n + 2) (.ref a) (.ref c) := by
  refine .inr ⟨a, c, _, _, rfl, rfl, rfl, by rw [List.length_map]; exact hl, fun i u v e1 e2 => ?_, .inr ⟨h1, h2⟩⟩
  have e := Option.some.inj (e1.symm.trans e2)
  subst e
  rw [List.getElem?_map] at e1
  obtain ⟨m, _, rfl⟩ := Option.map_eq_some_iff.mp e1
  exact Al.int m
def spSameN (n : Nat) : Sp := fun vs H Q _ => ∃ x y, vs = [x, y] ∧ Al H n x y ∧ ∀ H', Same H H' → Q (.bl true) H'
/-- two tuples beside each other: as many turns as the shorter one has places -/
theorem walk_zipT {K : PySem.W.Frag} {a b : Addr} {xs ys : List V} {n : Nat} (hn : n = min xs.length ys.length) : Walk (RZ.ItzT K a b) n (fun H => SqT K H a xs ∧ SqT K H b ys) (YPair (fun i => xs[i]?) (fun i => ys[i]?)) := by
  have less : ∀ i, i < n → i < xs.length ∧ i < ys.length := fun i hi => ⟨by omega, by omega⟩
  constructor
  · intro i G hi both
    obtain ⟨hx, hy⟩ := less i hi
    exact ⟨xs, ys, xs[i]'hx, ys[i]'hy, both.1, both.2, List.getElem?_eq_getElem hx, List.getElem?_eq_getElem hy⟩
  · intro G both
    exact ⟨xs, ys, both.1, both.2, by omega⟩
  · intro i G v G' hi both told
    obtain ⟨T, l, r, e1, e2, e3, gl, gr⟩ := told
    exact ⟨T, l, r, e1, e2, e3, gl _ both.1, gr _ both.2⟩
theorem rep_map (n : Nat) : (List.replicate n true).map V.bl = List.replicate n (V.bl true) := by rw [List.map_replicate]
theorem rep_all (n : Nat) : (List.replicate n true).all id = true := by
  rw [List.all_eq_true]
  intro x h
  exact (List.mem_replicate.mp h).2
theorem rep_more (n : Nat) : List.replicate n (V.bl true) ++ [V.bl true] = List.replicate (n + 1) (V.bl true) := by rw [List.replicate_succ']
/-! ### pairs that are still, and how far off they are -/
def offU (t b d E n : Int) : Int := absI (n * b - t * E) * d
def offI (t1 b1 t2 b2 E b c : Int) : Int := if offU t2 b2 b1 E c > offU t1 b1 b2 E b then offU t2 b2 b1 E c else offU t1 b1 b2 E b
def stillB (E b c : Int) : Bool := decide (absI c < E) && decide (absI b < E + c)
structure Wn (t1 b1 t2 b2 E : Int) : Prop where
  p1 : 0 < b1
  p2 : 0 < b2
  e : 1 ≤ E
  l2 : -b2 ≤ t2
  u2 : t2 ≤ b2
  u1 : t1 * b2 ≤ (b2 + t2) * b1
  l1 : -t1 * b2 ≤ (b2 + t2) * b1
theorem fl (x : Int) {b : Int} (h : 0 < b) : x / b * b ≤ x ∧ x < x / b * b + b := by
  have h1 := Int.emod_add_mul_ediv x b
  have h2 := Int.emod_nonneg x (show b ≠ 0 by omega)
  have h3 := Int.emod_lt_of_pos x h
  have e : x / b * b = b * (x / b) := Int.mul_comm _ _
  omega
theorem offU_le {t b d E n : Int} (hd : 0 < d) (h1 : n * b - t * E ≤ 2 * b) (h2 : -(2 * b) ≤ n * b - t * E) : offU t b d E n ≤ 2 * b * d := by
  unfold offU
  refine Int.mul_le_mul_of_nonneg_right ?_ (by omega)
  unfold absI
  split <;> omega
theorem offU_back {t b d E n : Int} (hb : 0 < b) (hd : 0 < d) (h : offU t b d E n ≤ 2 * b * d) : t * E / b - 2 ≤ n ∧ n ≤ t * E / b + 2 := by
  unfold offU at h
  have h1 : absI (n * b - t * E) ≤ 2 * b := Int.le_of_mul_le_mul_right h hd
  obtain ⟨f1, f2⟩ := fl (t * E) hb
  have h2 : n * b - t * E ≤ 2 * b ∧ -(2 * b) ≤ n * b - t * E := by
    unfold absI at h1
    split at h1 <;> omega
  generalize t * E / b = m at *
  constructor
  · have : (m - 2) * b ≤ n * b := by
      rw [Int.sub_mul]
      omega
    exact Int.le_of_mul_le_mul_right this hb
  · have : n * b < (m + 3) * b := by
      rw [Int.add_mul]
      omega
    have := Int.lt_of_mul_lt_mul_right this (by omega)
    omega
theorem offI_le {t1 b1 t2 b2 E b c B : Int} (h1 : offU t1 b1 b2 E b ≤ B) (h2 : offU t2 b2 b1 E c ≤ B) : offI t1 b1 t2 b2 E b c ≤ B := by
  unfold offI
  split <;> omega
theorem offI_ge (t1 b1 t2 b2 E b c : Int) : offU t1 b1 b2 E b ≤ offI t1 b1 t2 b2 E b c ∧ offU t2 b2 b1 E c ≤ offI t1 b1 t2 b2 E b c := by
  unfold offI
  split <;> omega
theorem off_grid {t1 b1 t2 b2 E b c : Int} (W : Wn t1 b1 t2 b2 E) (h : offI t1 b1 t2 b2 E b c ≤ 2 * b1 * b2) : (t1 * E / b1 - 2 ≤ b ∧ b ≤ t1 * E / b1 + 2) ∧ t2 * E / b2 - 2 ≤ c ∧ c ≤ t2 * E / b2 + 2 := by
  obtain ⟨h1, h2⟩ := offI_ge t1 b1 t2 b2 E b c
  refine ⟨offU_back W.p1 W.p2 (by omega), offU_back W.p2 W.p1 ?_⟩
  have e : 2 * b2 * b1 = 2 * b1 * b2 := by grind
  omega
theorem far_edge {X Y b1 b2 E c : Int} (p1 : 0 < b1) (p2 : 0 < b2) (h1 : X * b2 ≤ E * b1 * b2 + Y * b1) (h2 : Y ≤ c * b2 + b2) : X ≤ (E + c - 1) * b1 + 2 * b1 := by
  have h3 : Y * b1 ≤ (c * b2 + b2) * b1 := Int.mul_le_mul_of_nonneg_right h2 (by omega)
  have h4 : X * b2 ≤ ((E + c - 1) * b1 + 2 * b1) * b2 := by
    have e : ((E + c - 1) * b1 + 2 * b1) * b2 = E * b1 * b2 + (c * b2 + b2) * b1 := by grind
    omega
  exact Int.le_of_mul_le_mul_right h4 p2
theorem near_exists {t1 b1 t2 b2 E : Int} (W : Wn t1 b1 t2 b2 E) : ∃ b c, stillB E b c = true ∧ offI t1 b1 t2 b2 E b c ≤ 2 * b1 * b2 := by
  obtain ⟨p1, p2, e, l2, u2, u1, l1⟩ := W
  obtain ⟨f1, f2⟩ := fl (t2 * E) p2
  obtain ⟨g1, g2⟩ := fl (t1 * E) p1
  have yu : t2 * E ≤ E * b2 := by
    rw [Int.mul_comm E]
    exact Int.mul_le_mul_of_nonneg_right u2 (by omega)
  have yl : -E * b2 ≤ t2 * E := by
    have := Int.mul_le_mul_of_nonneg_right l2 (show 0 ≤ E by omega)
    have e1 : -b2 * E = -E * b2 := by grind
    omega
  have x1 : t1 * E * b2 ≤ E * b1 * b2 + t2 * E * b1 := by
    have := Int.mul_le_mul_of_nonneg_right u1 (show 0 ≤ E by omega)
    have e1 : t1 * b2 * E = t1 * E * b2 := by grind
    have e2 : (b2 + t2) * b1 * E = E * b1 * b2 + t2 * E * b1 := by grind
    omega
  have x2 : -(t1 * E) * b2 ≤ E * b1 * b2 + t2 * E * b1 := by
    have := Int.mul_le_mul_of_nonneg_right l1 (show 0 ≤ E by omega)
    have e1 : -t1 * b2 * E = -(t1 * E) * b2 := by grind
    have e2 : (b2 + t2) * b1 * E = E * b1 * b2 + t2 * E * b1 := by grind
    omega
  generalize hY : t2 * E = Y at *
  generalize hX : t1 * E = X at *
  have mu : Y / b2 ≤ E := by
    refine Int.le_of_mul_le_mul_right (a := b2) ?_ p2
    omega
  have ml : -E ≤ Y / b2 := by
    have h : -E * b2 < (Y / b2 + 1) * b2 := by
      rw [Int.add_mul]
      omega
    have := Int.lt_of_mul_lt_mul_right h (by omega)
    omega
  obtain ⟨c, c1, c2, c3, c4⟩ : ∃ c : Int, -E + 1 ≤ c ∧ c ≤ E - 1 ∧ Y ≤ c * b2 + b2 ∧ c * b2 ≤ Y + b2 := by
    by_cases h : Y / b2 + 1 ≤ E - 1
    · refine ⟨Y / b2 + 1, by omega, h, ?_, ?_⟩
      · rw [Int.add_mul]
        omega
      · rw [Int.add_mul]
        omega
    · have h' : (E - 1) * b2 ≤ Y / b2 * b2 := Int.mul_le_mul_of_nonneg_right (by omega) (by omega)
      have e1 : (E - 1) * b2 = E * b2 - b2 := by rw [Int.sub_mul, Int.one_mul]
      exact ⟨E - 1, by omega, by omega, by omega, by omega⟩
  have r1 := far_edge p1 p2 x1 c3
  have r2 := far_edge p1 p2 x2 c3
  obtain ⟨b, k1, k2, k3, k4⟩ : ∃ b : Int, -(E + c - 1) ≤ b ∧ b ≤ E + c - 1 ∧ b * b1 - X ≤ 2 * b1 ∧ -(2 * b1) ≤ b * b1 - X := by
    have r0 : 0 ≤ E + c - 1 := by omega
    generalize E + c - 1 = R at *
    by_cases h : R < X / b1
    · have h' : R * b1 ≤ X / b1 * b1 := Int.mul_le_mul_of_nonneg_right (by omega) (by omega)
      exact ⟨R, by omega, by omega, by omega, by omega⟩
    · by_cases h2 : X / b1 < -R
      · have h' : (X / b1 + 1) * b1 ≤ -R * b1 := Int.mul_le_mul_of_nonneg_right (by omega) (by omega)
        have e1 : -R * b1 = -(R * b1) := Int.neg_mul ..
        have e2 : (X / b1 + 1) * b1 = X / b1 * b1 + b1 := by rw [Int.add_mul, Int.one_mul]
        exact ⟨-R, by omega, by omega, by omega, by omega⟩
      · exact ⟨X / b1, by omega, by omega, by omega, by omega⟩
  refine ⟨b, c, ?_, offI_le (offU_le p2 (by rw [hX]; exact k3) (by rw [hX]; exact k4)) ?_⟩
  · unfold stillB absI
    rw [Bool.and_eq_true, decide_eq_true_eq, decide_eq_true_eq]
    constructor
    · split <;> omega
    · split <;> omega
  · have := offU_le (t := t2) (b := b2) (d := b1) (E := E) (n := c) p1 (by rw [hY]; omega) (by rw [hY]; omega)
    have e1 : 2 * b2 * b1 = 2 * b1 * b2 := by grind
    omega
/-! ### the ranked pairs -/
abbrev T3 := Int × Int × Int
def tr (t1 b1 t2 b2 E b c : Int) : T3 := (offI t1 b1 t2 b2 E b c, b, c)
/-- the k-th pair of the program's twenty-five -/
def gk (t1 b1 t2 b2 E : Int) (k : Nat) : T3 := tr t1 b1 t2 b2 E (t1 * E / b1 - 2 + (k / 5 : Nat)) (t2 * E / b2 - 2 + (k % 5 : Nat))
def lt3 (p q : T3) : Bool := !le3 q p
theorem lt3_lex (p q : T3) : HT.lexLt [p.1, p.2.1, p.2.2] [q.1, q.2.1, q.2.2] = lt3 p q := by
  unfold lt3 le3
  rw [HT.lexLt_cons, HT.lexLt_cons, HT.lexLt_cons, HT.lexLt_nil_nil]
  by_cases c1 : p.1 = q.1
  · rw [if_pos c1]
    by_cases c2 : p.2.1 = q.2.1
    · rw [if_pos c2]
      by_cases c3 : p.2.2 = q.2.2
      · rw [if_pos c3, decide_eq_true (by omega)]
        rfl
      · rw [if_neg c3]
        by_cases c4 : p.2.2 < q.2.2
        · rw [decide_eq_true c4, decide_eq_false (by omega)]
          rfl
        · rw [decide_eq_false c4, decide_eq_true (by omega)]
          rfl
    · rw [if_neg c2]
      by_cases c4 : p.2.1 < q.2.1
      · rw [decide_eq_true c4, decide_eq_false (by omega)]
        rfl
      · rw [decide_eq_false c4, decide_eq_true (by omega)]
        rfl
  · rw [if_neg c1]
    by_cases c4 : p.1 < q.1
    · rw [decide_eq_true c4, decide_eq_false (by omega)]
      rfl
    · rw [decide_eq_false c4, decide_eq_true (by omega)]
      rfl
theorem le3_anti {p q : T3} (h1 : le3 p q = true) (h2 : le3 q p = true) : p = q := by
  unfold le3 at *
  have a := of_decide_eq_true h1
  have b := of_decide_eq_true h2
  exact Prod.ext (by omega) (Prod.ext (by omega) (by omega))
theorem leW_anti {p q : Int × Int × Bool} (h1 : leW p q = true) (h2 : leW q p = true) : p = q := by
  unfold leW at *
  have a := of_decide_eq_true h1
  have b := of_decide_eq_true h2
  have e1 : p.1 = q.1 := by omega
  have e2 : p.2.1 = q.2.1 := by omega
  refine Prod.ext e1 (Prod.ext e2 ?_)
  rcases a with a | ⟨_, a | ⟨_, a⟩⟩
  · omega
  · omega
  · rcases b with b | ⟨_, b | ⟨_, b⟩⟩
    · omega
    · omega
    · cases hp : p.2.2 <;> cases hq : q.2.2
      · rfl
      · exact absurd (b hq) (by rw [hp]; decide)
      · exact absurd (a hp) (by rw [hq]; decide)
      · rfl
theorem first_true : ∀ bs : List Bool, true ∈ bs → ∃ j : Nat, bs[j]? = some true ∧ ∀ m, m < j → bs[m]? = some false
  | [], h => by cases h
  | true :: bs, _ => ⟨0, rfl, fun m h => absurd h (by omega)⟩
  | false :: bs, h => by
    obtain ⟨j, h1, h2⟩ := first_true bs (by simpa using h)
    refine ⟨j + 1, h1, fun m hm => ?_⟩
    cases m with
    | zero => rfl
    | succ m => exact h2 m (by omega)
theorem take_lt {R : List T3} {j : Nat} {h x : T3} (pw : R.Pairwise fun p q => le3 p q = true) (nd : R.Nodup) (hj : R[j]? = some h) : x ∈ R.take j ↔ x ∈ R ∧ lt3 x h = true := by
  obtain ⟨lj, ej⟩ := List.getElem?_eq_some_iff.mp hj
  constructor
  · intro hx
    refine ⟨List.mem_of_mem_take hx, ?_⟩
    obtain ⟨i, li, rfl⟩ := List.getElem_of_mem hx
    rw [List.length_take] at li
    have hi : i < j := by omega
    rw [List.getElem_take]
    have le := List.pairwise_iff_getElem.mp pw i j (by omega) lj hi
    have ne : R[i]'(by omega) ≠ R[j]'lj := List.pairwise_iff_getElem.mp nd i j (by omega) lj hi
    unfold lt3
    cases hh : le3 h (R[i]'(by omega)) with
    | false => rfl
    | true =>
      rw [ej] at ne le
      exact absurd (le3_anti le hh) ne
  · intro ⟨hx, lt⟩
    obtain ⟨i, li, rfl⟩ := List.getElem_of_mem hx
    by_cases c : i < j
    · rw [List.mem_take_iff_getElem]
      exact ⟨i, by omega, rfl⟩
    · exfalso
      have le : le3 h (R[i]'li) = true := by
        by_cases e : i = j
        · subst e
          rw [ej]
          unfold le3
          exact decide_eq_true (by omega)
        · have := List.pairwise_iff_getElem.mp pw j i lj li (by omega)
          rw [ej] at this
          exact this
      unfold lt3 at lt
      rw [le] at lt
      cases lt
theorem gk_nodup (t1 b1 t2 b2 E : Int) : ((List.range 25).map (gk t1 b1 t2 b2 E)).Nodup := by
  refine List.pairwise_map.mpr (List.Pairwise.imp (fun {x y} ne h => ne ?_) List.nodup_range)
  have h1 : t1 * E / b1 - 2 + (x / 5 : Nat) = t1 * E / b1 - 2 + (y / 5 : Nat) := congrArg (fun p : T3 => p.2.1) h
  have h2 : t2 * E / b2 - 2 + (x % 5 : Nat) = t2 * E / b2 - 2 + (y % 5 : Nat) := congrArg (fun p : T3 => p.2.2) h
  omega
theorem gk_mem {t1 b1 t2 b2 E : Int} {x : T3} : x ∈ (List.range 25).map (gk t1 b1 t2 b2 E) ↔ x = tr t1 b1 t2 b2 E x.2.1 x.2.2 ∧ (t1 * E / b1 - 2 ≤ x.2.1 ∧ x.2.1 ≤ t1 * E / b1 + 2) ∧ t2 * E / b2 - 2 ≤ x.2.2 ∧ x.2.2 ≤ t2 * E / b2 + 2 := by
  rw [List.mem_map]
  constructor
  · rintro ⟨k, hk, rfl⟩
    have := List.mem_range.mp hk
    refine ⟨rfl, ?_, ?_⟩
    · show t1 * E / b1 - 2 ≤ t1 * E / b1 - 2 + (k / 5 : Nat) ∧ t1 * E / b1 - 2 + (k / 5 : Nat) ≤ t1 * E / b1 + 2
      omega
    · show t2 * E / b2 - 2 ≤ t2 * E / b2 - 2 + (k % 5 : Nat) ∧ t2 * E / b2 - 2 + (k % 5 : Nat) ≤ t2 * E / b2 + 2
      omega
  · rintro ⟨e, h1, h2⟩
    refine ⟨(x.2.1 - (t1 * E / b1 - 2)).toNat * 5 + (x.2.2 - (t2 * E / b2 - 2)).toNat, List.mem_range.mpr (by omega), Eq.trans ?_ e.symm⟩
    unfold gk
    have e1 : t1 * E / b1 - 2 + (((x.2.1 - (t1 * E / b1 - 2)).toNat * 5 + (x.2.2 - (t2 * E / b2 - 2)).toNat) / 5 : Nat) = x.2.1 := by omega
    have e2 : t2 * E / b2 - 2 + (((x.2.1 - (t1 * E / b1 - 2)).toNat * 5 + (x.2.2 - (t2 * E / b2 - 2)).toNat) % 5 : Nat) = x.2.2 := by omega
    rw [e1, e2]
/-- what is told: the nearest still pair, and all pairs ahead of it, sorted -/
structure NearIs (t1 b1 t2 b2 E bB cB : Int) (rows : List (Int × Int × Bool)) : Prop where
  st : stillB E bB cB = true
  off : offI t1 b1 t2 b2 E bB cB ≤ 2 * b1 * b2
  pw : rows.Pairwise fun p q => leW p q = true
  nd : rows.Nodup
  len : rows.length ≤ 25
  mem : ∀ b c t, (b, c, t) ∈ rows ↔ lt3 (tr t1 b1 t2 b2 E b c) (tr t1 b1 t2 b2 E bB cB) = true ∧ t = decide (¬ absI c < E)
  no : ∀ b c, lt3 (tr t1 b1 t2 b2 E b c) (tr t1 b1 t2 b2 E bB cB) = true → stillB E b c = false
theorem near_ranked {t1 b1 t2 b2 E : Int} (W : Wn t1 b1 t2 b2 E) {R : List T3} (pm : R.Perm ((List.range 25).map (gk t1 b1 t2 b2 E))) (pw : R.Pairwise fun p q => le3 p q = true) :
    ∃ (j : Nat) (h : T3), R[j]? = some h ∧ stillB E h.2.1 h.2.2 = true ∧ (∀ m x, m < j → R[m]? = some x → stillB E x.2.1 x.2.2 = false) ∧
      ∀ rows : List (Int × Int × Bool), rows.Perm ((R.take j).map fun x => (x.2.1, x.2.2, decide (¬ absI x.2.2 < E))) → rows.Pairwise (fun p q => leW p q = true) → NearIs t1 b1 t2 b2 E h.2.1 h.2.2 rows := by
  have nd : R.Nodup := pm.nodup_iff.mpr (gk_nodup t1 b1 t2 b2 E)
  have mem : ∀ x, x ∈ R ↔ _ := fun x => (pm.mem_iff (a := x)).trans gk_mem
  obtain ⟨b0, c0, s0, o0⟩ := near_exists W
  have in0 : tr t1 b1 t2 b2 E b0 c0 ∈ R := (mem _).mpr ⟨rfl, off_grid W o0⟩
  obtain ⟨j, hj, hb⟩ := first_true (R.map fun x => stillB E x.2.1 x.2.2) (List.mem_map.mpr ⟨_, in0, s0⟩)
  rw [List.getElem?_map] at hj
  obtain ⟨h, hR, hs⟩ := Option.map_eq_some_iff.mp hj
  have ahead : ∀ m x, m < j → R[m]? = some x → stillB E x.2.1 x.2.2 = false := fun m x hm hx => by
    have := hb m hm
    rw [List.getElem?_map, hx] at this
    exact Option.some.inj this
  have hmem : h ∈ R := List.mem_of_getElem? hR
  obtain ⟨eh, _⟩ := (mem h).mp hmem
  have tk : ∀ x, x ∈ R.take j ↔ x ∈ R ∧ lt3 x h = true := fun x => take_lt pw nd hR
  have nst : ∀ x, x ∈ R.take j → stillB E x.2.1 x.2.2 = false := fun x hx => by
    obtain ⟨i, li, rfl⟩ := List.getElem_of_mem hx
    rw [List.length_take] at li
    rw [List.getElem_take]
    exact ahead i _ (by omega) (List.getElem?_eq_getElem _)
  have ho : offI t1 b1 t2 b2 E h.2.1 h.2.2 ≤ 2 * b1 * b2 := by
    by_cases c : lt3 (tr t1 b1 t2 b2 E b0 c0) h = true
    · have := nst _ ((tk _).mpr ⟨in0, c⟩)
      rw [show stillB E (tr t1 b1 t2 b2 E b0 c0).2.1 (tr t1 b1 t2 b2 E b0 c0).2.2 = true from s0] at this
      cases this
    · unfold lt3 at c
      have c' : le3 h (tr t1 b1 t2 b2 E b0 c0) = true := by
        cases hh : le3 h (tr t1 b1 t2 b2 E b0 c0) with
        | true => rfl
        | false => rw [hh] at c; exact absurd rfl c
      unfold le3 at c'
      have a := of_decide_eq_true c'
      rw [eh] at a
      have a2 : offI t1 b1 t2 b2 E h.2.1 h.2.2 ≤ offI t1 b1 t2 b2 E b0 c0 := by
        have a3 : offI t1 b1 t2 b2 E h.2.1 h.2.2 < offI t1 b1 t2 b2 E b0 c0 ∨ offI t1 b1 t2 b2 E h.2.1 h.2.2 = offI t1 b1 t2 b2 E b0 c0 ∧ _ := a
        rcases a3 with a3 | ⟨a3, _⟩ <;> omega
      omega
  have full : ∀ b c, lt3 (tr t1 b1 t2 b2 E b c) h = true ↔ tr t1 b1 t2 b2 E b c ∈ R.take j := fun b c => by
    rw [tk]
    constructor
    · intro lt
      refine ⟨(mem _).mpr ⟨rfl, off_grid (b := b) (c := c) W ?_⟩, lt⟩
      unfold lt3 le3 at lt
      rw [eh] at lt
      have a := of_decide_eq_false (Bool.not_eq_true' _ ▸ lt)
      have a2 : ¬ (offI t1 b1 t2 b2 E h.2.1 h.2.2 < offI t1 b1 t2 b2 E b c) := fun z => a (.inl z)
      omega
    · exact fun z => z.2
  refine ⟨j, h, hR, hs, ahead, fun rows pr pwr => ?_⟩
  have inj : ((R.take j).map fun x => (x.2.1, x.2.2, decide (¬ absI x.2.2 < E))).Nodup := by
    refine List.pairwise_map.mpr ?_
    refine List.Pairwise.imp_of_mem (fun {x y} hx hy ne => ?_) (nd.sublist (List.take_sublist j R))
    intro e
    have ex := ((mem x).mp (List.mem_of_mem_take hx)).1
    have ey := ((mem y).mp (List.mem_of_mem_take hy)).1
    have e1 : x.2.1 = y.2.1 := congrArg (fun p : Int × Int × Bool => p.1) e
    have e2 : x.2.2 = y.2.2 := congrArg (fun p : Int × Int × Bool => p.2.1) e
    refine ne ?_
    rw [ex, ey, e1, e2]
  have memR : ∀ b c t, (b, c, t) ∈ rows ↔ lt3 (tr t1 b1 t2 b2 E b c) h = true ∧ t = decide (¬ absI c < E) := fun b c t => by
    rw [pr.mem_iff, List.mem_map, full]
    constructor
    · rintro ⟨x, hx, e⟩
      have ex := ((mem x).mp (List.mem_of_mem_take hx)).1
      have e1 : x.2.1 = b := congrArg (fun p : Int × Int × Bool => p.1) e
      have e2 : x.2.2 = c := congrArg (fun p : Int × Int × Bool => p.2.1) e
      have e3 : decide (¬ absI x.2.2 < E) = t := congrArg (fun p : Int × Int × Bool => p.2.2) e
      rw [← e1, ← e2, ← ex]
      exact ⟨hx, e3.symm⟩
    · rintro ⟨hx, rfl⟩
      exact ⟨_, hx, rfl⟩
  have lenR : R.length = 25 := by
    rw [pm.length_eq, List.length_map, List.length_range]
  have eh' : tr t1 b1 t2 b2 E h.2.1 h.2.2 = h := eh.symm
  refine ⟨hs, ho, pwr, pr.nodup_iff.mpr inj, ?_, fun b c t => ?_, fun b c lt => ?_⟩
  · rw [pr.length_eq, List.length_map, List.length_take]
    omega
  · rw [eh']
    exact memR b c t
  · rw [eh'] at lt
    exact nst _ ((full b c).mp lt)
/-- rows that are told by the same words are the same -/
theorem rows_same {p q : List (Int × Int × Bool)} (hp : p.Pairwise fun x y => leW x y = true) (hq : q.Pairwise fun x y => leW x y = true) (np : p.Nodup) (nq : q.Nodup) (h : ∀ x, x ∈ p ↔ x ∈ q) : p = q :=
  List.Perm.eq_of_pairwise (fun _ _ _ _ h1 h2 => leW_anti h1 h2) hp hq ((List.perm_ext_iff_of_nodup np nq).mpr h)

end E1

namespace E1
open PySem PySem.Spec PyProof.Rows L2
theorem up {x : Nat} {a b : Nat} (h : x < 2 ^ a) (l : a ≤ b) : x < 2 ^ b := Nat.lt_of_lt_of_le h (Nat.pow_le_pow_right (by decide) l)
theorem same_but {H H1 H2 : Hp} {p : Addr} (s : Same H H1) (b : SameBut p H1 H2) (hp : H p = none) : Same H H2 := fun a o e => b a o (ne_of_none e hp) (s a o e)
theorem Same.free {H H' : Hp} {p : Addr} (s : Same H H') (h : H' p = none) : H p = none := by
  cases e : H p with
  | none => rfl
  | some o =>
    rw [s _ _ e] at h
    cases h

/-- a walk, by what a turn asks: the word of a comprehension that has two fors -/
theorem walk_w {J : It} {n : Nat} {G : Hp → Prop} {Y : Nat → Hp → V → Hp → Prop} (wk : Walk J n G Y) {T : V → Hp → (Hp → Prop) → Prop} {H0 : Hp} {Qd : Hp → Prop} (Pv : Nat → Hp → Prop) (h0 : Pv 0 H0) (hG : ∀ i H, i ≤ n → Pv i H → G H)
    (hs : ∀ i x H H', i < n → Pv i H → Y i H x H' → T x H' (Pv (i + 1))) (hd : ∀ H, Pv n H → Qd H) :
    ∃ W : Nat → Nat → Hp → Prop, (∃ m, W 0 m H0) ∧ ∀ i m H, W i m H → (J.stop i H ∧ Qd H) ∨ (J.go i H ∧ ∃ Nx : Hp → Prop, (∀ H', Nx H' → ∃ m', m' < m ∧ W (i + 1) m' H') ∧ ∀ x H', J.yld i H x H' → T x H' Nx) := by
  refine ⟨fun i m G' => i + m = n ∧ Pv i G', ⟨n, Nat.zero_add n, h0⟩, fun i m G' ⟨e, p⟩ => ?_⟩
  have good := hG i G' (by omega) p
  cases m with
  | zero =>
    have e' : i = n := by omega
    subst e'
    exact .inl ⟨wk.stops G' good, hd G' p⟩
  | succ m =>
    have hi : i < n := by omega
    exact .inr ⟨wk.goes i G' hi good, Pv (i + 1), fun G2 p2 => ⟨m, by omega, by omega, p2⟩, fun x G2 y => hs i x G' G2 hi p (wk.yields i G' x G2 hi good y)⟩
theorem cut_take (xs : List V) (j : Nat) (h : j ≤ xs.length) : cutV xs none (some (j : Int)) = xs.take j := by
  unfold cutV
  have e1 : HT.sIx xs.length 0 none = 0 := rfl
  have e2 : HT.sIx xs.length xs.length (some (j : Int)) = j := by
    unfold HT.sIx
    simp only
    split <;> omega
  rw [e1, e2, List.drop_zero, Nat.sub_zero]
/-! ### tuples of three in the heap -/
def At3 (H : Hp) (p : V × T3) : Prop := ∃ r, p.1 = .ref r ∧ H r = some (.tup [.int p.2.1, .int p.2.2.1, .int p.2.2.2])
def AtW (H : Hp) (p : V × Int × Int × Bool) : Prop := ∃ r, p.1 = .ref r ∧ H r = some (.tup [.int p.2.1, .int p.2.2.1, .str (wS p.2.2.2)])
theorem At3.same {H H' : Hp} {p : V × T3} (h : At3 H p) (s : Same H H') : At3 H' p := by
  obtain ⟨r, e, h⟩ := h
  exact ⟨r, e, s _ _ h⟩
theorem AtW.same {H H' : Hp} {p : V × Int × Int × Bool} (h : AtW H p) (s : Same H H') : AtW H' p := by
  obtain ⟨r, e, h⟩ := h
  exact ⟨r, e, s _ _ h⟩
theorem At3.upd {H : Hp} {p : V × T3} {D : Addr} {us vs : List V} (h : At3 H p) (hD : H D = some (.lst us)) : At3 (upd H D (.lst vs)) p := by
  obtain ⟨r, e, h⟩ := h
  refine ⟨r, e, ?_⟩
  rw [upd_ne (ne_of h hD (fun z => nomatch z))]
  exact h
theorem AtW.upd {H : Hp} {p : V × Int × Int × Bool} {D : Addr} {us vs : List V} (h : AtW H p) (hD : H D = some (.lst us)) : AtW (upd H D (.lst vs)) p := by
  obtain ⟨r, e, h⟩ := h
  refine ⟨r, e, ?_⟩
  rw [upd_ne (ne_of h hD (fun z => nomatch z))]
  exact h
theorem At3.dp {K : PySem.W.Frag} {H : Hp} {p : V × T3} (h : At3 H p) : Dp K H p.1 (enc3 p.2) := by
  obtain ⟨r, e, h⟩ := h
  rw [e]
  exact .tup (SqT.of h) (.cons (.int _) (.cons (.int _) (.cons (.int _) .nil)))
theorem AtW.dp {K : PySem.W.Frag} {H : Hp} {p : V × Int × Int × Bool} (h : AtW H p) : Dp K H p.1 (encW p.2) := by
  obtain ⟨r, e, h⟩ := h
  rw [e]
  exact .tup (SqT.of h) (.cons (.int _) (.cons (.int _) (.cons (.str _) .nil)))
/-- a list of rows -/
def RowsAt (H : Hp) (L : Addr) (rows : List (Int × Int × Bool)) : Prop := ∃ ps : List (V × Int × Int × Bool), H L = some (.lst (ps.map (·.1))) ∧ (∀ p ∈ ps, AtW H p) ∧ ps.map (·.2) = rows
theorem RowsAt.same {H H' : Hp} {L : Addr} {rows : List (Int × Int × Bool)} (h : RowsAt H L rows) (s : Same H H') : RowsAt H' L rows := by
  obtain ⟨ps, e, h, e2⟩ := h
  exact ⟨ps, s _ _ e, fun p hp => (h p hp).same s, e2⟩
theorem RowsAt.al {H : Hp} {L M : Addr} {rows : List (Int × Int × Bool)} (n : Nat) (hl : rows.length ≤ 1000) (h : RowsAt H L rows) (g : RowsAt H M rows) : Al H (n + 3) (.ref L) (.ref M) := by
  obtain ⟨ps, e1, h1, r1⟩ := h
  obtain ⟨qs, e2, h2, r2⟩ := g
  have len : ps.length = qs.length := by
    have a := congrArg List.length r1
    have b := congrArg List.length r2
    rw [List.length_map] at a b
    omega
  have lr := congrArg List.length r1
  rw [List.length_map] at lr
  refine .inr ⟨L, M, _, _, rfl, rfl, by rw [List.length_map, List.length_map, len], by rw [List.length_map]; omega, fun i u v eu ev => ?_, .inr ⟨e1, e2⟩⟩
  rw [List.getElem?_map] at eu ev
  obtain ⟨p, hp, rfl⟩ := Option.map_eq_some_iff.mp eu
  obtain ⟨q, hq, rfl⟩ := Option.map_eq_some_iff.mp ev
  have pq : p.2 = q.2 := by
    have a : rows[i]? = some p.2 := by rw [← r1, List.getElem?_map, hp]; rfl
    have b : rows[i]? = some q.2 := by rw [← r2, List.getElem?_map, hq]; rfl
    exact Option.some.inj (a.symm.trans b)
  obtain ⟨r, ep, hr⟩ := h1 p (List.mem_of_getElem? hp)
  obtain ⟨s, eq, hs⟩ := h2 q (List.mem_of_getElem? hq)
  rw [← pq] at hs
  rw [ep, eq]
  refine .inr ⟨r, s, _, _, rfl, rfl, rfl, (by show 3 ≤ 1000; decide), fun i u v eu ev => ?_, .inl ⟨hr, hs⟩⟩
  have e := Option.some.inj (eu.symm.trans ev)
  subst e
  match i, eu with
  | 0, eu => cases eu; exact Al.int _
  | 1, eu => cases eu; exact Al.int _
  | 2, eu => cases eu; exact .inl ⟨rfl, .str _⟩
  | i + 3, eu => cases eu
def spPlace : Sp := fun vs H Q _ => ∃ n m : Int, vs = [.int n, .int m] ∧ 0 ≤ n ∧ n < m ∧ Q (.bl true) H
/-- two fractions that are wanted at a point, not too great -/
structure Wd (H : Hp) (p1 p2 : Addr) (t1 b1 t2 b2 E : Int) : Prop where
  a1 : H p1 = some (.tup [.int t1, .int b1])
  a2 : H p2 = some (.tup [.int t2, .int b2])
  g1 : gI t1 b1 = 1
  g2 : gI t2 b2 = 1
  wn : Wn t1 b1 t2 b2 E
  s1 : t1.natAbs < 2 ^ 40
  s2 : b1.natAbs < 2 ^ 40
  s3 : t2.natAbs < 2 ^ 40
  s4 : b2.natAbs < 2 ^ 40
  eE : E ≤ 2 ^ 20
theorem Wd.same {H H' : Hp} {p1 p2 : Addr} {t1 b1 t2 b2 E : Int} (h : Wd H p1 p2 t1 b1 t2 b2 E) (s : Same H H') : Wd H' p1 p2 t1 b1 t2 b2 E :=
  ⟨s _ _ h.a1, s _ _ h.a2, h.g1, h.g2, h.wn, h.s1, h.s2, h.s3, h.s4, h.eE⟩
def spWanted : Sp := fun vs H Q _ => ∃ (p1 p2 : Addr) (t1 b1 t2 b2 E : Int), vs = [.ref p1, .ref p2] ∧ Wd H p1 p2 t1 b1 t2 b2 E ∧ ∀ H', Same H H' → Q (.bl true) H'
def spStill : Sp := fun vs H Q _ => ∃ b c E : Int, vs = [.int b, .int c, .int E] ∧ Q (.bl (stillB E b c)) H
def spNrs (K : PySem.W.Frag) : Sp := fun vs H Q _ => ∃ (p : Addr) (t b E : Int), vs = [.ref p, .int E] ∧ SqT K H p [.int t, .int b] ∧ 0 < b ∧ b.natAbs < 2 ^ 40 ∧ t.natAbs < 2 ^ 40 ∧ 1 ≤ E ∧ E ≤ 2 ^ 20 ∧ ∀ q, H q = none → Q (.ref q) (upd H q (.lst (rgV (t * E / b - 2) (t * E / b + 2 + 1))))
def spFar (K : PySem.W.Frag) : Sp := fun vs H Q _ => ∃ (p : Addr) (n t b E d : Int), vs = [.int n, .ref p, .int E, .int d] ∧ SqT K H p [.int t, .int b] ∧ b.natAbs < 2 ^ 40 ∧ d.natAbs < 2 ^ 40 ∧ 1 ≤ E ∧ E ≤ 2 ^ 20 ∧ Q (.int (offU t b d E n)) H
def spNear : Sp := fun vs H Q _ => ∃ (p1 p2 : Addr) (s t1 b1 t2 b2 : Int), vs = [.ref p1, .ref p2, .int s] ∧ 0 ≤ s ∧ s ≤ 20 ∧ Wd H p1 p2 t1 b1 t2 b2 (2 ^ s.toNat) ∧
  ∀ (r M : Addr) (bB cB : Int) (rows : List (Int × Int × Bool)) (H' : Hp), H r = none → H M = none → M ≠ r → Same H H' → H' r = some (.tup [.int bB, .int cB, .ref M]) → RowsAt H' M rows → NearIs t1 b1 t2 b2 (2 ^ s.toNat) bB cB rows → Q (.ref r) H'
theorem wanted_ok {t1 b1 t2 b2 E : Int} (W : Wn t1 b1 t2 b2 E) : ¬ (lowT (1 * b2 + t2 * 1) (1 * b2) * b1 < absI t1 * lowB (1 * b2 + t2 * 1) (1 * b2)) := by
  obtain ⟨p1, p2, e, l2, u2, u1, l1⟩ := W
  have e1 : 1 * b2 + t2 * 1 = b2 + t2 := by omega
  rw [e1, Int.one_mul]
  have g0 := gI_pos (t := b2 + t2) (b := b2) (by omega)
  have d1 : gI (b2 + t2) b2 ∣ b2 + t2 := Int.gcd_dvd_left ..
  have d2 : gI (b2 + t2) b2 ∣ b2 := Int.gcd_dvd_right ..
  have m1 : lowT (b2 + t2) b2 * gI (b2 + t2) b2 = b2 + t2 := by
    unfold lowT
    rw [if_neg (by omega)]
    exact Int.ediv_mul_cancel d1
  have m2 : lowB (b2 + t2) b2 * gI (b2 + t2) b2 = b2 := by
    unfold lowB
    rw [if_neg (by omega)]
    exact Int.ediv_mul_cancel d2
  intro h
  have h2 := Int.mul_lt_mul_of_pos_right h g0
  have a1 : lowT (b2 + t2) b2 * b1 * gI (b2 + t2) b2 = (b2 + t2) * b1 := by
    rw [Int.mul_right_comm, m1]
  have a2 : absI t1 * lowB (b2 + t2) b2 * gI (b2 + t2) b2 = absI t1 * b2 := by
    rw [Int.mul_assoc, m2]
  rw [a1, a2] at h2
  unfold absI at h2
  split at h2 <;> omega
theorem rg5 (a : Int) (i : Nat) (h : i < 5) : (rgV (a - 2) (a + 2 + 1))[i]? = some (.int (a - 2 + i)) := by
  unfold rgV
  rw [List.getElem?_map, List.getElem?_range (by omega)]
  rfl
theorem rg5_len (a : Int) : (rgV (a - 2) (a + 2 + 1)).length = 5 := by
  rw [rgV_length]
  omega

end E1

namespace E1
open PySem PySem.Spec PyProof.Rows L2
section
variable {P : Program} {w : World} {K : PySem.W.Frag} {mg : Str → Option Value} {base : Heap}
theorem sc_is_whole : FnScope ["thing"] ["thing"] (defScope s_is_whole) := ⟨rfl, rfl, rfl, by decide +kernel, rfl, by decide +kernel, by decide +kernel⟩
theorem ok_is_whole {f : Addr} {fd : FuncData} {k : Nat} (F : Fun K "is_whole" "is_whole" s_is_whole f fd) (z : Zs mg) : FnOk P w K mg base CX0 (k + 1) f fd ["thing"] (spWhole K) := by
  refine F.ok sc_is_whole (fun vs H Q E h => ?_) (fun cdv A outer s H vs Q E hr h => ?_)
  · obtain ⟨x, b, rfl, _⟩ := h
    rfl
  · obtain ⟨x, b, rfl, hw, q⟩ := h
    refine ⟨_, (pss_one (ps_ret (pe_and (pe_callB call_isi (by rfl) z.isinstance (by decide +kernel) (pa_cons (pv 0) (pa_cons (pe_bltn (v := .ty "int") (by rfl) z.int (by decide +kernel) rfl) pa_nil))) (pe_one (pe_not (pe_callB call_isi (by rfl) z.isinstance (by decide +kernel) (pa_cons (pv 0) (pa_cons (pe_bltn (v := .ty "bool") (by rfl) z.bool (by decide +kernel) rfl) pa_nil)))))))), ?_⟩
    rcases hw with ⟨i, rfl, rfl⟩ | ⟨c, rfl, rfl⟩ | ⟨rfl, t, ty, kt⟩
    · exact ⟨_, rfl, _, .ty "int", _, _, true, rfl, .ty _, .base (.int i), kit_ty (by decide +kernel), _, rfl, iteT ⟨_, rfl, _, .ty "bool", _, _, false, rfl, .ty _, .base (.int i), kit_ty (by decide +kernel), _, rfl, q⟩⟩
    · exact ⟨_, rfl, _, .ty "int", _, _, true, rfl, .ty _, .base (.bl c), kit_ty (by decide +kernel), _, rfl, iteT ⟨_, rfl, _, .ty "bool", _, _, true, rfl, .ty _, .base (.bl c), kit_ty (by decide +kernel), _, rfl, q⟩⟩
    · exact ⟨_, rfl, _, .ty "int", _, _, false, rfl, .ty _, ty, kit_ty kt, _, rfl, iteF q⟩
theorem sc_shared_divisor : FnScope ["top", "bottom", "one", "other"] ["top", "bottom"] (defScope s_shared_divisor) := ⟨rfl, rfl, rfl, by decide +kernel, rfl, by decide +kernel, by decide +kernel⟩
theorem ok_shared_divisor {f : Addr} {fd : FuncData} {k : Nat} (F : Fun K "shared_divisor" "shared_divisor" s_shared_divisor f fd) (z : Zs mg) : FnOk P w K mg base CX0 (k + 1) f fd ["top", "bottom"] spShared := by
  refine F.ok sc_shared_divisor (fun vs H Q E h => ?_) (fun cdv A outer s H vs Q E hr h => ?_)
  · obtain ⟨t, b, rfl, _⟩ := h
    rfl
  · obtain ⟨t, b, rfl, hb, q⟩ := h
    refine ⟨_, (pss_cons (ps_set (i := 2) sc_shared_divisor.nd rfl (.inl rfl) (pe_callB call_abs (by rfl) z.abs (by decide +kernel) (pa_cons (pv 0) pa_nil)))
      (pss_cons (ps_set (i := 3) sc_shared_divisor.nd rfl (.inl rfl) (pv 1))
      (pss_cons (ps_while PassesOwn.never (pt_truth (pv 3) (by intro _; rfl)) (pss_one (ps_par (i := 2) (j := 3) (by rfl) sc_shared_divisor.nd rfl rfl (by decide) rfl rfl (pa_cons (pv 3) (pa_cons (pe_op op_mod (pv 2) (pv 3)) pa_nil)) (by rfl))))
      (pss_one (ps_ret (pv 2)))))), ?_⟩
    refine ⟨_, rfl, _, rfl, ?_⟩
    refine ⟨_, rfl, ?_⟩
    dsimp only [gName, tSeq]
    refine while_by (fun σ H' => H' = H ∧ ∃ m n : Nat, σ = [some (.int t), some (.int b), some (.int (m : Int)), some (.int (n : Int))] ∧ Nat.gcd m n = Int.gcd t b)
      (fun σ _ => match σ with | [_, _, _, some (.int r)] => r.toNat | _ => 0) ⟨rfl, t.natAbs, b.natAbs, ?_, rfl⟩ (fun σ H1 hP => ?_) (fun σ H Q Q' m hh => ?_)
    · have e1 : (if t < 0 then -t else t) = (t.natAbs : Int) := by split <;> omega
      have e2 : b = (b.natAbs : Int) := by omega
      show [some (V.int t), some (V.int b), some (V.int (if t < 0 then -t else t)), some (V.int b)] = _
      rw [e1, ← e2]
    · obtain ⟨rfl, m, n, rfl, hg⟩ := hP
      refine ⟨_, rfl, _, rfl, ?_⟩
      by_cases hn : n = 0
      · subst hn
        have e : ((((0 : Nat) : Int)) != 0) = false := rfl
        rw [e]
        refine iteF ⟨_, rfl, ?_⟩
        rw [Nat.gcd_zero_right] at hg
        have e2 : (m : Int) = gI t b := by
          unfold gI
          rw [hg]
        rw [e2]
        exact q
      · have e : ((n : Int) != 0) = true := by
          rw [bne_iff_ne]
          omega
        rw [e]
        refine iteT ⟨_, rfl, _, rfl, _, rfl, _, _, rfl, rfl, (by omega), _, _, rfl, ⟨⟨rfl, n, m % n, rfl, ?_⟩, ?_⟩⟩
        · rw [← hg, Nat.gcd_comm n (m % n), ← Nat.gcd_rec n m, Nat.gcd_comm]
        · show ((m : Int) % (n : Int)).toNat < ((n : Int)).toNat
          have := Int.emod_lt_of_pos (m : Int) (show (0 : Int) < n by omega)
          have := Int.emod_nonneg (m : Int) (show (n : Int) ≠ 0 by omega)
          omega
    · obtain ⟨v, e, kk, tv, hq⟩ := hh
      exact ⟨v, e, kk, tv, m _ _ hq⟩
theorem sc_lowest : FnScope ["top", "bottom", "shared"] ["top", "bottom"] (defScope s_lowest) := ⟨rfl, rfl, rfl, by decide +kernel, rfl, by decide +kernel, by decide +kernel⟩
theorem ok_lowest {f : Addr} {fd : FuncData} (F : Fun K "lowest" "lowest" s_lowest f fd) (c_shared_divisor : Cal P w K mg base 1 "shared_divisor" ["top", "bottom"] spShared) : FnOk P w K mg base CX0 2 f fd ["top", "bottom"] spLow := by
  refine F.ok sc_lowest (fun vs H Q E h => ?_) (fun cdv A outer s H vs Q E hr h => ?_)
  · obtain ⟨t, b, rfl, _⟩ := h
    rfl
  · obtain ⟨t, b, rfl, hb, hl, q⟩ := h
    refine ⟨_, (pss_cons (ps_if (pt_cmpR op_lt (pv 1) pe_int (nomark _)) (pss_cons (ps_set (i := 0) sc_lowest.nd rfl (.inl rfl) (pe_un un_neg (pv 0)))
      (pss_one (ps_set (i := 1) sc_lowest.nd rfl (.inl rfl) (pe_un un_neg (pv 1))))) pss_nil)
      (pss_cons (ps_set (i := 2) sc_lowest.nd rfl (.inl rfl) (pe_cal c_shared_divisor hr (pa_cons (pv 0) (pa_cons (pv 1) pa_nil))))
      (pss_one (ps_ret (pe_tup (pa_cons (pe_op op_fdivW (pv 0) (pv 2)) (pa_cons (pe_op op_fdivW (pv 1) (pv 2)) pa_nil))))))), ?_⟩
    have g0 := gI_pos (t := t) hb
    have g1 : (gI t b).natAbs < 2 ^ 4000 := Nat.lt_of_le_of_lt (gI_le hb) hl
    refine ⟨_, rfl, _, _, rfl, rfl, _, rfl, ite2 (fun c => ?_) (fun c => ?_)⟩
    · have hc := toB c
      refine ⟨_, rfl, _, rfl, ?_⟩
      refine ⟨_, rfl, _, rfl, ?_⟩
      refine ⟨_, rfl, _, rfl, -t, -b, rfl, by omega, ?_⟩
      rw [gI_neg]
      refine ⟨_, rfl, _, rfl, _, _, rfl, rfl, wide_div g0 g1 (by decide) (by decide), _, rfl, _, rfl, _, _, rfl, rfl, wide_div g0 g1 (by decide) (by decide), (by show 2 ≤ sizeLine; decide), fun p hp => ?_⟩
      have := q p hp
      unfold lowT lowB at this
      rw [if_pos hc, if_pos hc] at this
      exact this
    · have hc := toNB c
      refine ⟨_, rfl, _, rfl, t, b, rfl, by omega, ?_⟩
      refine ⟨_, rfl, _, rfl, _, _, rfl, rfl, wide_div g0 g1 (by decide) (by decide), _, rfl, _, rfl, _, _, rfl, rfl, wide_div g0 g1 (by decide) (by decide), (by show 2 ≤ sizeLine; decide), fun p hp => ?_⟩
      have := q p hp
      unfold lowT lowB at this
      rw [if_neg hc, if_neg hc] at this
      exact this
theorem sc_plus : FnScope ["one", "other"] ["one", "other"] (defScope s_plus) := ⟨rfl, rfl, rfl, by decide +kernel, rfl, by decide +kernel, by decide +kernel⟩
theorem ok_plus {f : Addr} {fd : FuncData} (F : Fun K "plus" "plus" s_plus f fd) (c_lowest : Cal P w K mg base 2 "lowest" ["top", "bottom"] spLow) : FnOk P w K mg base CX0 3 f fd ["one", "other"] (spTwo K (fun t u v x => True) (fun t u v x => t * x + v * u) (fun t u v x => u * x)) := by
  refine F.ok sc_plus (fun vs H Q E h => ?_) (fun cdv A outer s H vs Q E hr h => ?_)
  · obtain ⟨a, c, t, u, v, x, rfl, _⟩ := h
    rfl
  · obtain ⟨a, c, t, u, v, x, rfl, ha, hc, pr, hu, hx, b1, b2, b3, b4, q⟩ := h
    refine ⟨_, (pss_one (ps_ret (pe_cal c_lowest hr (pa_cons (pe_op op_add (pe_op op_mulW (pe_ix ix_tup (pv 0) pe_int (fun _ _ => rfl)) (pe_ix ix_tup (pv 1) pe_int (fun _ _ => rfl))) (pe_op op_mulW (pe_ix ix_tup (pv 1) pe_int (fun _ _ => rfl)) (pe_ix ix_tup (pv 0) pe_int (fun _ _ => rfl)))) (pa_cons (pe_op op_mulW (pe_ix ix_tup (pv 0) pe_int (fun _ _ => rfl)) (pe_ix ix_tup (pv 1) pe_int (fun _ _ => rfl))) pa_nil))))), ?_⟩
    have nz : u * x ≠ 0 := Int.mul_ne_zero (by omega) (by omega)
    refine ⟨_, rfl, a, _, 0, .int t, rfl, rfl, ha, a0, _, rfl, c, _, 1, .int x, rfl, rfl, hc, a1, _, _, rfl, rfl, wide_mul b1 b4 (by decide) (by decide) (by decide), _, rfl, c, _, 0, .int v, rfl, rfl, hc, a0, _, rfl, a, _, 1, .int u, rfl, rfl, ha, a1, _, _, rfl, rfl, wide_mul b3 b2 (by decide) (by decide) (by decide), _, _, rfl, rfl, _, rfl, a, _, 1, .int u, rfl, rfl, ha, a1, _, rfl, c, _, 1, .int x, rfl, rfl, hc, a1, _, _, rfl, rfl, wide_mul b2 b4 (by decide) (by decide) (by decide), _, _, rfl, nz, ?_, q⟩
    exact Nat.lt_of_lt_of_le (wide_lt b2 b4) (Nat.pow_le_pow_right (by decide) (by decide))
theorem sc_minus : FnScope ["one", "other"] ["one", "other"] (defScope s_minus) := ⟨rfl, rfl, rfl, by decide +kernel, rfl, by decide +kernel, by decide +kernel⟩
theorem ok_minus {f : Addr} {fd : FuncData} (F : Fun K "minus" "minus" s_minus f fd) (c_lowest : Cal P w K mg base 2 "lowest" ["top", "bottom"] spLow) : FnOk P w K mg base CX0 3 f fd ["one", "other"] (spTwo K (fun t u v x => True) (fun t u v x => t * x - v * u) (fun t u v x => u * x)) := by
  refine F.ok sc_minus (fun vs H Q E h => ?_) (fun cdv A outer s H vs Q E hr h => ?_)
  · obtain ⟨a, c, t, u, v, x, rfl, _⟩ := h
    rfl
  · obtain ⟨a, c, t, u, v, x, rfl, ha, hc, pr, hu, hx, b1, b2, b3, b4, q⟩ := h
    refine ⟨_, (pss_one (ps_ret (pe_cal c_lowest hr (pa_cons (pe_op op_sub (pe_op op_mulW (pe_ix ix_tup (pv 0) pe_int (fun _ _ => rfl)) (pe_ix ix_tup (pv 1) pe_int (fun _ _ => rfl))) (pe_op op_mulW (pe_ix ix_tup (pv 1) pe_int (fun _ _ => rfl)) (pe_ix ix_tup (pv 0) pe_int (fun _ _ => rfl)))) (pa_cons (pe_op op_mulW (pe_ix ix_tup (pv 0) pe_int (fun _ _ => rfl)) (pe_ix ix_tup (pv 1) pe_int (fun _ _ => rfl))) pa_nil))))), ?_⟩
    have nz : u * x ≠ 0 := Int.mul_ne_zero (by omega) (by omega)
    refine ⟨_, rfl, a, _, 0, .int t, rfl, rfl, ha, a0, _, rfl, c, _, 1, .int x, rfl, rfl, hc, a1, _, _, rfl, rfl, wide_mul b1 b4 (by decide) (by decide) (by decide), _, rfl, c, _, 0, .int v, rfl, rfl, hc, a0, _, rfl, a, _, 1, .int u, rfl, rfl, ha, a1, _, _, rfl, rfl, wide_mul b3 b2 (by decide) (by decide) (by decide), _, _, rfl, rfl, _, rfl, a, _, 1, .int u, rfl, rfl, ha, a1, _, rfl, c, _, 1, .int x, rfl, rfl, hc, a1, _, _, rfl, rfl, wide_mul b2 b4 (by decide) (by decide) (by decide), _, _, rfl, nz, ?_, q⟩
    exact Nat.lt_of_lt_of_le (wide_lt b2 b4) (Nat.pow_le_pow_right (by decide) (by decide))
theorem sc_times : FnScope ["one", "other"] ["one", "other"] (defScope s_times) := ⟨rfl, rfl, rfl, by decide +kernel, rfl, by decide +kernel, by decide +kernel⟩
theorem ok_times {f : Addr} {fd : FuncData} (F : Fun K "times" "times" s_times f fd) (c_lowest : Cal P w K mg base 2 "lowest" ["top", "bottom"] spLow) : FnOk P w K mg base CX0 3 f fd ["one", "other"] (spTwo K (fun t u v x => True) (fun t u v x => t * v) (fun t u v x => u * x)) := by
  refine F.ok sc_times (fun vs H Q E h => ?_) (fun cdv A outer s H vs Q E hr h => ?_)
  · obtain ⟨a, c, t, u, v, x, rfl, _⟩ := h
    rfl
  · obtain ⟨a, c, t, u, v, x, rfl, ha, hc, pr, hu, hx, b1, b2, b3, b4, q⟩ := h
    refine ⟨_, (pss_one (ps_ret (pe_cal c_lowest hr (pa_cons (pe_op op_mulW (pe_ix ix_tup (pv 0) pe_int (fun _ _ => rfl)) (pe_ix ix_tup (pv 1) pe_int (fun _ _ => rfl))) (pa_cons (pe_op op_mulW (pe_ix ix_tup (pv 0) pe_int (fun _ _ => rfl)) (pe_ix ix_tup (pv 1) pe_int (fun _ _ => rfl))) pa_nil))))), ?_⟩
    have nz : u * x ≠ 0 := Int.mul_ne_zero (by omega) (by omega)
    refine ⟨_, rfl, a, _, 0, .int t, rfl, rfl, ha, a0, _, rfl, c, _, 0, .int v, rfl, rfl, hc, a0, _, _, rfl, rfl, wide_mul b1 b3 (by decide) (by decide) (by decide), _, rfl, a, _, 1, .int u, rfl, rfl, ha, a1, _, rfl, c, _, 1, .int x, rfl, rfl, hc, a1, _, _, rfl, rfl, wide_mul b2 b4 (by decide) (by decide) (by decide), _, _, rfl, nz, ?_, q⟩
    exact Nat.lt_of_lt_of_le (wide_lt b2 b4) (Nat.pow_le_pow_right (by decide) (by decide))
theorem sc_divided : FnScope ["one", "other"] ["one", "other"] (defScope s_divided) := ⟨rfl, rfl, rfl, by decide +kernel, rfl, by decide +kernel, by decide +kernel⟩
theorem ok_divided {f : Addr} {fd : FuncData} (F : Fun K "divided" "divided" s_divided f fd) (c_lowest : Cal P w K mg base 2 "lowest" ["top", "bottom"] spLow) : FnOk P w K mg base CX0 3 f fd ["one", "other"] (spTwo K (fun t u v x => v ≠ 0) (fun t u v x => t * x) (fun t u v x => u * v)) := by
  refine F.ok sc_divided (fun vs H Q E h => ?_) (fun cdv A outer s H vs Q E hr h => ?_)
  · obtain ⟨a, c, t, u, v, x, rfl, _⟩ := h
    rfl
  · obtain ⟨a, c, t, u, v, x, rfl, ha, hc, pr, hu, hx, b1, b2, b3, b4, q⟩ := h
    refine ⟨_, (pss_cons (ps_if (pt_cmpR op_eq (pe_ix ix_tup (pv 1) pe_int (fun _ _ => rfl)) pe_int (nomark _)) (pss_one ps_never) pss_nil)
      (pss_one (ps_ret (pe_cal c_lowest hr (pa_cons (pe_op op_mulW (pe_ix ix_tup (pv 0) pe_int (fun _ _ => rfl)) (pe_ix ix_tup (pv 1) pe_int (fun _ _ => rfl))) (pa_cons (pe_op op_mulW (pe_ix ix_tup (pv 0) pe_int (fun _ _ => rfl)) (pe_ix ix_tup (pv 1) pe_int (fun _ _ => rfl))) pa_nil)))))), ?_⟩
    have nz : u * v ≠ 0 := Int.mul_ne_zero (by omega) pr
    refine ⟨_, rfl, c, _, 0, .int v, rfl, rfl, hc, a0, rfl, _, rfl, ite2 (fun c' => absurd (V.int.inj (toB c')) pr) (fun _ => ?_)⟩
    refine ⟨_, rfl, a, _, 0, .int t, rfl, rfl, ha, a0, _, rfl, c, _, 1, .int x, rfl, rfl, hc, a1, _, _, rfl, rfl, wide_mul b1 b4 (by decide) (by decide) (by decide), _, rfl, a, _, 1, .int u, rfl, rfl, ha, a1, _, rfl, c, _, 0, .int v, rfl, rfl, hc, a0, _, _, rfl, rfl, wide_mul b2 b3 (by decide) (by decide) (by decide), _, _, rfl, nz, ?_, q⟩
    exact Nat.lt_of_lt_of_le (wide_lt b2 b3) (Nat.pow_le_pow_right (by decide) (by decide))
theorem sc_size_of : FnScope ["one"] ["one"] (defScope s_size_of) := ⟨rfl, rfl, rfl, by decide +kernel, rfl, by decide +kernel, by decide +kernel⟩
theorem ok_size_of {f : Addr} {fd : FuncData} {k : Nat} (F : Fun K "size_of" "size_of" s_size_of f fd) (z : Zs mg) : FnOk P w K mg base CX0 (k + 1) f fd ["one"] (spSize K) := by
  refine F.ok sc_size_of (fun vs H Q E h => ?_) (fun cdv A outer s H vs Q E hr h => ?_)
  · obtain ⟨a, t, u, rfl, _⟩ := h
    rfl
  · obtain ⟨a, t, u, rfl, ha, q⟩ := h
    refine ⟨_, (pss_one (ps_ret (pe_tup (pa_cons (pe_callB call_abs (by rfl) z.abs (by decide +kernel) (pa_cons (pe_ix ix_tup (pv 0) pe_int (fun _ _ => rfl)) pa_nil)) (pa_cons (pe_ix ix_tup (pv 0) pe_int (fun _ _ => rfl)) pa_nil))))), ?_⟩
    exact ⟨_, rfl, a, _, 0, .int t, rfl, rfl, ha, a0, _, rfl, _, rfl, a, _, 1, .int u, rfl, rfl, ha, a1, (by show 2 ≤ sizeLine; decide), q⟩
theorem sc_under : FnScope ["one", "other"] ["one", "other"] (defScope s_under) := ⟨rfl, rfl, rfl, by decide +kernel, rfl, by decide +kernel, by decide +kernel⟩
theorem ok_under {f : Addr} {fd : FuncData} {k : Nat} (F : Fun K "under" "under" s_under f fd) : FnOk P w K mg base CX0 (k + 1) f fd ["one", "other"] (spUnder K) := by
  refine F.ok sc_under (fun vs H Q E h => ?_) (fun cdv A outer s H vs Q E hr h => ?_)
  · obtain ⟨a, c, t, u, v, x, rfl, _⟩ := h
    rfl
  · obtain ⟨a, c, t, u, v, x, rfl, ha, hc, b1, b2, b3, b4, q⟩ := h
    refine ⟨_, (pss_one (ps_ret (pe_cmpR op_lt (pe_op op_mulW (pe_ix ix_tup (pv 0) pe_int (fun _ _ => rfl)) (pe_ix ix_tup (pv 1) pe_int (fun _ _ => rfl))) (pe_op op_mulW (pe_ix ix_tup (pv 1) pe_int (fun _ _ => rfl)) (pe_ix ix_tup (pv 0) pe_int (fun _ _ => rfl))) (nomark _)))), ?_⟩
    exact ⟨_, rfl, a, _, 0, .int t, rfl, rfl, ha, a0, _, rfl, c, _, 1, .int x, rfl, rfl, hc, a1, _, _, rfl, rfl, wide_mul b1 b4 (by decide) (by decide) (by decide), _, rfl, c, _, 0, .int v, rfl, rfl, hc, a0, _, rfl, a, _, 1, .int u, rfl, rfl, ha, a1, _, _, rfl, rfl, wide_mul b3 b2 (by decide) (by decide) (by decide), _, _, rfl, rfl, q⟩
theorem sc_is_fraction : FnScope ["thing", "top", "bottom"] ["thing"] (defScope s_is_fraction) := ⟨rfl, rfl, rfl, by decide +kernel, rfl, by decide +kernel, by decide +kernel⟩
theorem ok_is_fraction {f : Addr} {fd : FuncData} (F : Fun K "is_fraction" "is_fraction" s_is_fraction f fd) (z : Zs mg) (c_is_whole : Cal P w K mg base 1 "is_whole" ["thing"] (spWhole K)) (c_shared_divisor : Cal P w K mg base 1 "shared_divisor" ["top", "bottom"] spShared) : FnOk P w K mg base CX0 2 f fd ["thing"] spIsFrac := by
  refine F.ok sc_is_fraction (fun vs H Q E h => ?_) (fun cdv A outer s H vs Q E hr h => ?_)
  · obtain ⟨a, t, u, rfl, _⟩ := h
    rfl
  · obtain ⟨a, t, u, rfl, ha, hu, q⟩ := h
    refine ⟨_, (pss_cons (ps_if (PW.pt (pw_or (pt_not (pt_val (pe_callB call_isi (by rfl) z.isinstance (by decide +kernel) (pa_cons (pv 0) (pa_cons (pe_bltn (v := .ty "tuple") (by rfl) z.tuple (by decide +kernel) rfl) pa_nil))))) (pw_or1 (pt_cmpR op_ne (pe_callB call_len_seq (by rfl) z.len PySem.boot_len (pa_cons (pv 0) pa_nil)) pe_int (nomark _))))) (pss_one (ps_ret pe_bl)) pss_nil)
      (pss_cons (ps_asg (pv 0) (pg_tup (by rfl) (pgs_cons (pg_name (i := 1) sc_is_fraction.nd rfl (.inl rfl)) (pgs_cons (pg_name (i := 2) sc_is_fraction.nd rfl (.inl rfl)) pgs_nil))))
      (pss_cons (ps_if (PW.pt (pw_or (pt_not (pt_val (pe_cal c_is_whole hr (pa_cons (pv 1) pa_nil)))) (pw_or (pt_not (pt_val (pe_cal c_is_whole hr (pa_cons (pv 2) pa_nil)))) (pw_or1 (pt_cmpR op_lt (pv 2) pe_int (nomark _)))))) (pss_one (ps_ret pe_bl)) pss_nil)
      (pss_one (ps_ret (pe_cmpR op_eq (pe_cal c_shared_divisor hr (pa_cons (pv 1) (pa_cons (pv 2) pa_nil))) pe_int (nomark _))))))), ?_⟩
    refine ⟨_, rfl, _, .ty "tuple", _, _, true, rfl, .ty _, .base (.tup ha), kit_ty (by decide +kernel), _, rfl, iteF ⟨_, rfl, a, _, rfl, .inr (SqT.of ha), rfl, _, rfl, iteF ?_⟩⟩
    refine ⟨_, rfl, a, _, rfl, SqT.of ha, rfl, _, _, rfl, _, _, rfl, rfl, ?_⟩
    refine ⟨_, rfl, _, _, rfl, .int t, _, rfl, iteF ⟨_, rfl, _, _, rfl, .int u, _, rfl, iteF ⟨_, rfl, _, _, rfl, rfl, _, rfl, ite2 (fun c => ?_) (fun c => ?_)⟩⟩⟩
    · have := toB c
      omega
    · refine ⟨_, rfl, _, rfl, t, u, rfl, by omega, rfl, ?_⟩
      have e : (decide (V.int (gI t u) = V.int 1)) = decide (gI t u = 1) := by
        by_cases h : gI t u = 1
        · rw [h]
          rfl
        · rw [decide_eq_false h, decide_eq_false (fun z => h (V.int.inj z))]
      rw [e]
      exact q
theorem sc_is_place : FnScope ["thing", "many"] ["thing", "many"] (defScope s_is_place) := ⟨rfl, rfl, rfl, by decide +kernel, rfl, by decide +kernel, by decide +kernel⟩
theorem ok_is_place {f : Addr} {fd : FuncData} (F : Fun K "is_place" "is_place" s_is_place f fd) (c_is_whole : Cal P w K mg base 1 "is_whole" ["thing"] (spWhole K)) : FnOk P w K mg base CX0 2 f fd ["thing", "many"] spPlace := by
  refine F.ok sc_is_place (fun vs H Q E h => ?_) (fun cdv A outer s H vs Q E hr h => ?_)
  · obtain ⟨n, m, rfl, _⟩ := h
    rfl
  · obtain ⟨n, m, rfl, h0, h1, q⟩ := h
    refine ⟨_, (pss_one (ps_ret (pe_and (pe_cal c_is_whole hr (pa_cons (pv 0) pa_nil)) (pe_one (pe_chain op_le op_lt pe_int (pv 0) (pv 1)))))), ?_⟩
    refine ⟨_, rfl, _, true, rfl, .int n, _, rfl, iteT ⟨_, rfl, _, _, rfl, rfl, _, rfl, ?_⟩⟩
    rw [decide_eq_true h0]
    refine iteT ⟨_, rfl, _, _, rfl, rfl, ?_⟩
    show Q (.bl (decide (n < m))) H
    rw [decide_eq_true h1]
    exact q
theorem sc_is_wanted : FnScope ["one", "two"] ["one", "two"] (defScope s_is_wanted) := ⟨rfl, rfl, rfl, by decide +kernel, rfl, by decide +kernel, by decide +kernel⟩
theorem ok_is_wanted {f : Addr} {fd : FuncData} {aO : Addr} (g_ONE : mg "ONE" = some (.ref aO)) (tO : ∀ H, SqT K H aO [.int 1, .int 1]) (F : Fun K "is_wanted" "is_wanted" s_is_wanted f fd) (c_is_fraction : Cal P w K mg base 2 "is_fraction" ["thing"] spIsFrac) (c_under : Cal P w K mg base 1 "under" ["one", "other"] (spUnder K)) (c_size_of : Cal P w K mg base 1 "size_of" ["one"] (spSize K)) (c_plus : Cal P w K mg base 3 "plus" ["one", "other"] (spTwo K (fun t u v x => True) (fun t u v x => t * x + v * u) (fun t u v x => u * x))) : FnOk P w K mg base CX0 4 f fd ["one", "two"] spWanted := by
  refine F.ok sc_is_wanted (fun vs H Q E h => ?_) (fun cdv A outer s H vs Q E hr h => ?_)
  · obtain ⟨p1, p2, t1, b1, t2, b2, E, rfl, _⟩ := h
    rfl
  · obtain ⟨p1, p2, t1, b1, t2, b2, E, rfl, W, q⟩ := h
    refine ⟨_, (pss_cons (ps_if (PW.pt (pw_or (pt_not (pt_val (pe_cal c_is_fraction hr (pa_cons (pv 0) pa_nil)))) (pw_or (pt_not (pt_val (pe_cal c_is_fraction hr (pa_cons (pv 1) pa_nil)))) (pw_or1 (pt_val (pe_cal c_under hr (pa_cons (pe_glob (v := .ref aO) (by rfl) g_ONE rfl) (pa_cons (pe_cal c_size_of hr (pa_cons (pv 1) pa_nil)) pa_nil)))))))) (pss_one (ps_ret pe_bl)) pss_nil)
      (pss_one (ps_ret (pe_not (pe_cal c_under hr (pa_cons (pe_cal c_plus hr (pa_cons (pe_glob (v := .ref aO) (by rfl) g_ONE rfl) (pa_cons (pv 1) pa_nil))) (pa_cons (pe_cal c_size_of hr (pa_cons (pv 0) pa_nil)) pa_nil))))))), ?_⟩
    obtain ⟨a1, a2, g1, g2, wn, s1, s2, s3, s4, eE⟩ := W
    have w1 := wn.p1
    have w2 := wn.p2
    refine ⟨_, rfl, p1, t1, b1, rfl, a1, by omega, ?_⟩
    rw [decide_eq_true g1]
    refine ⟨_, rfl, iteF ⟨_, rfl, p2, t2, b2, rfl, a2, by omega, ?_⟩⟩
    rw [decide_eq_true g2]
    refine ⟨_, rfl, iteF ⟨_, rfl, p2, t2, b2, rfl, SqT.of a2, fun u hu => ?_⟩⟩
    have S1 := same_new (o := .tup [.int (absI t2), .int b2]) hu
    have at2 : (absI t2).natAbs < 2 ^ 40 := by unfold absI; split <;> omega
    have at1 : (absI t1).natAbs < 2 ^ 40 := by unfold absI; split <;> omega
    have lt2 : ¬ (1 * b2 < absI t2 * 1) := by
      have := wn.l2
      have := wn.u2
      unfold absI
      split <;> omega
    refine ⟨aO, u, 1, 1, absI t2, b2, rfl, tO _, SqT.of upd_same, by decide, by decide, up at2 (by decide), up s4 (by decide), ?_⟩
    rw [decide_eq_false lt2]
    refine ⟨_, rfl, iteF ?_⟩
    refine ⟨_, rfl, aO, p2, 1, 1, t2, b2, rfl, tO _, SqT.of (S1 _ _ a2), trivial, by decide, w2, by decide, by decide, up s3 (by decide), up s4 (by decide), fun v hv => ?_⟩
    have S2 := S1.trans (same_new (o := .tup [.int (lowT (1 * b2 + t2 * 1) (1 * b2)), .int (lowB (1 * b2 + t2 * 1) (1 * b2))]) hv)
    refine ⟨_, rfl, p1, t1, b1, rfl, SqT.of (S2 _ _ a1), fun x hx => ?_⟩
    have S3 := same_new (o := .tup [.int (absI t1), .int b1]) hx
    have bT : (lowT (1 * b2 + t2 * 1) (1 * b2)).natAbs < 2 ^ 1900 := by
      have h1 : (lowT (1 * b2 + t2 * 1) (1 * b2)).natAbs ≤ (1 * b2 + t2 * 1).natAbs := by
        unfold lowT
        refine Nat.le_trans (Int.natAbs_ediv_le_natAbs _ _) ?_
        split <;> omega
      refine Nat.lt_of_le_of_lt (Nat.le_trans h1 (show _ ≤ 2 ^ 42 by omega)) (by decide)
    have bB : (lowB (1 * b2 + t2 * 1) (1 * b2)).natAbs < 2 ^ 1900 := by
      have h1 : (lowB (1 * b2 + t2 * 1) (1 * b2)).natAbs ≤ (1 * b2).natAbs := by
        unfold lowB
        refine Nat.le_trans (Int.natAbs_ediv_le_natAbs _ _) ?_
        split <;> omega
      refine Nat.lt_of_le_of_lt (Nat.le_trans h1 (show _ ≤ 2 ^ 42 by omega)) (by decide)
    refine ⟨v, x, _, _, _, _, rfl, SqT.of (S3 _ _ upd_same), SqT.of upd_same, bT, bB, up at1 (by decide), up s2 (by decide), ?_⟩
    rw [decide_eq_false (wanted_ok wn)]
    exact ⟨_, rfl, q _ (S2.trans S3)⟩
theorem sc_is_still_pair : FnScope ["one", "two", "end"] ["one", "two", "end"] (defScope s_is_still_pair) := ⟨rfl, rfl, rfl, by decide +kernel, rfl, by decide +kernel, by decide +kernel⟩
theorem ok_is_still_pair {f : Addr} {fd : FuncData} {k : Nat} (F : Fun K "is_still_pair" "is_still_pair" s_is_still_pair f fd) (z : Zs mg) : FnOk P w K mg base CX0 (k + 1) f fd ["one", "two", "end"] spStill := by
  refine F.ok sc_is_still_pair (fun vs H Q E h => ?_) (fun cdv A outer s H vs Q E hr h => ?_)
  · obtain ⟨b, c, E, rfl, _⟩ := h
    rfl
  · obtain ⟨b, c, E, rfl, q⟩ := h
    refine ⟨_, (pss_one (ps_ret (pe_and (pe_cmpR op_lt (pe_callB call_abs (by rfl) z.abs (by decide +kernel) (pa_cons (pv 1) pa_nil)) (pv 2) (nomark _)) (pe_one (pe_cmpR op_lt (pe_callB call_abs (by rfl) z.abs (by decide +kernel) (pa_cons (pv 0) pa_nil)) (pe_op op_add (pv 2) (pv 1)) (nomark _)))))), ?_⟩
    have q' : Q (.bl (decide (absI c < E) && decide (absI b < E + c))) H := q
    refine ⟨_, rfl, _, rfl, _, rfl, _, _, rfl, rfl, _, rfl, ?_⟩
    show if decide (absI c < E) = true then _ else _
    by_cases h : absI c < E
    · rw [decide_eq_true h] at q' ⊢
      rw [Bool.true_and] at q'
      exact iteT ⟨_, rfl, _, rfl, _, rfl, _, rfl, _, _, rfl, rfl, _, _, rfl, rfl, q'⟩
    · rw [decide_eq_false h] at q' ⊢
      exact iteF q'
theorem sc_numbers_near : FnScope ["value", "end", "middle"] ["value", "end"] (defScope s_numbers_near) := ⟨rfl, rfl, rfl, by decide +kernel, rfl, by decide +kernel, by decide +kernel⟩
theorem ok_numbers_near {f : Addr} {fd : FuncData} {k : Nat} (tk : Tok) (g_FARTHEST_STEPS : mg "FARTHEST_STEPS" = some (.int 2 tk)) (F : Fun K "numbers_near" "numbers_near" s_numbers_near f fd) (z : Zs mg) : FnOk P w K mg base CX0 (k + 1) f fd ["value", "end"] (spNrs K) := by
  refine F.ok sc_numbers_near (fun vs H Q E h => ?_) (fun cdv A outer s H vs Q E hr h => ?_)
  · obtain ⟨p, t, b, E, rfl, _⟩ := h
    rfl
  · obtain ⟨p, t, b, E, rfl, hp, b0, bb, tb, e1, e2, q⟩ := h
    refine ⟨_, (pss_cons (ps_set (i := 2) sc_numbers_near.nd rfl (.inl rfl) (pe_op op_fdivW (pe_op op_mul (pe_ix ix_tup (pv 0) pe_int (fun _ _ => rfl)) (pv 1)) (pe_ix ix_tup (pv 0) pe_int (fun _ _ => rfl))))
      (pss_one (ps_ret (pe_listRg rfl (by rfl) z.list (prg_2 (by rfl) z.range (pe_op op_sub (pv 2) (pe_glob (v := .int 2) (by rfl) g_FARTHEST_STEPS ⟨_, rfl⟩)) (pe_op op_add (pe_op op_add (pv 2) (pe_glob (v := .int 2) (by rfl) g_FARTHEST_STEPS ⟨_, rfl⟩)) pe_int)))))), ?_⟩
    refine ⟨_, rfl, p, _, 0, _, rfl, rfl, hp, a0, _, rfl, _, _, rfl, rfl, .inr ⟨by omega, by omega⟩, _, rfl, p, _, 1, _, rfl, rfl, hp, a1, _, _, rfl, rfl, wide_div b0 (up bb (show 40 ≤ 4000 by decide)) (by decide) (by decide), ?_⟩
    have m1 : (t * E / b).natAbs ≤ (t * E).natAbs := Int.natAbs_ediv_le_natAbs _ _
    have m2 : (t * E).natAbs ≤ 2 ^ 40 * 2 ^ 20 := by
      rw [Int.natAbs_mul]
      exact Nat.mul_le_mul (by omega) (by omega)
    have m3 : (t * E / b).natAbs ≤ 2 ^ 60 := Nat.le_trans m1 (Nat.le_trans m2 (by decide))
    refine ⟨_, rfl, _, _, rfl, rfl, _, rfl, _, _, rfl, rfl, _, _, rfl, rfl, _, _, rfl, rfl, ⟨by omega, by omega, by omega, by omega, by omega⟩, q⟩
theorem sc_far_off : FnScope ["number", "value", "end", "bottom"] ["number", "value", "end", "bottom"] (defScope s_far_off) := ⟨rfl, rfl, rfl, by decide +kernel, rfl, by decide +kernel, by decide +kernel⟩
theorem ok_far_off {f : Addr} {fd : FuncData} {k : Nat} (F : Fun K "far_off" "far_off" s_far_off f fd) (z : Zs mg) : FnOk P w K mg base CX0 (k + 1) f fd ["number", "value", "end", "bottom"] (spFar K) := by
  refine F.ok sc_far_off (fun vs H Q E h => ?_) (fun cdv A outer s H vs Q E hr h => ?_)
  · obtain ⟨p, n, t, b, E, d, rfl, _⟩ := h
    rfl
  · obtain ⟨p, n, t, b, E, d, rfl, hp, bb, db, e1, e2, q⟩ := h
    refine ⟨_, (pss_one (ps_ret (pe_op op_mul (pe_callB call_abs (by rfl) z.abs (by decide +kernel) (pa_cons (pe_op op_sub (pe_op op_mul (pv 0) (pe_ix ix_tup (pv 1) pe_int (fun _ _ => rfl))) (pe_op op_mul (pe_ix ix_tup (pv 1) pe_int (fun _ _ => rfl)) (pv 2))) pa_nil)) (pv 3)))), ?_⟩
    exact ⟨_, rfl, _, rfl, p, _, 1, _, rfl, rfl, hp, a1, _, _, rfl, rfl, .inr ⟨by omega, by omega⟩, _, rfl, p, _, 0, _, rfl, rfl, hp, a0, _, rfl, _, _, rfl, rfl, .inr ⟨by omega, by omega⟩, _, _, rfl, rfl, _, rfl, _, rfl, _, _, rfl, rfl, .inr ⟨by omega, by omega⟩, q⟩
end
end E1

namespace E1
open PySem PySem.Spec PyProof.Rows L2
section
variable {P : Program} {w : World} {K : PySem.W.Frag} {mg : Str → Option Value} {base : Heap}
theorem sc_nearest_still : FnScope ["one", "two", "point", "end", "ranked", "first", "barred", "b", "c", "far"] ["one", "two", "point"] (defScope s_nearest_still) := ⟨rfl, rfl, rfl, by decide +kernel, rfl, by decide +kernel, by decide +kernel⟩
theorem ok_nearest_still {f : Addr} {fd : FuncData} (tk : Tok) (g_GREATEST_POINT : mg "GREATEST_POINT" = some (.int 20 tk)) (F : Fun K "nearest_still" "nearest_still" s_nearest_still f fd) (z : Zs mg) (c_is_wanted : Cal P w K mg base 4 "is_wanted" ["one", "two"] spWanted) (c_is_place : Cal P w K mg base 2 "is_place" ["thing", "many"] spPlace) (c_numbers_near : Cal P w K mg base 1 "numbers_near" ["value", "end"] (spNrs K)) (c_far_off : Cal P w K mg base 1 "far_off" ["number", "value", "end", "bottom"] (spFar K)) (c_is_still_pair : Cal P w K mg base 1 "is_still_pair" ["one", "two", "end"] spStill) : FnOk P w K mg base CX0 5 f fd ["one", "two", "point"] spNear := by
  refine F.ok sc_nearest_still (fun vs H Q E h => ?_) (fun cdv A outer s00 H vs Q E00 hr h => ?_)
  · obtain ⟨p1, p2, s, t1, b1, t2, b2, rfl, _⟩ := h
    rfl
  · obtain ⟨p1, p2, s, t1, b1, t2, b2, rfl, s0, s1, W, q⟩ := h
    generalize hE : (2 : Int) ^ s.toNat = E at W q
    refine ⟨_, (pss_cons (ps_if (PW.pt (pw_or (pt_not (pt_val (pe_cal c_is_wanted hr (pa_cons (pv 0) (pa_cons (pv 1) pa_nil))))) (pw_or1 (pt_not (pt_val (pe_cal c_is_place hr (pa_cons (pv 2) (pa_cons (pe_op op_add (pe_glob (v := .int 20) (by rfl) g_GREATEST_POINT ⟨_, rfl⟩) pe_int) pa_nil)))))))) (pss_one ps_never) pss_nil)
      (pss_cons (ps_set (i := 3) sc_nearest_still.nd rfl (.inr rfl) (pe_op op_shl pe_int (pv 2)))
      (C8.pss_cut (ps_set (i := 4) sc_nearest_still.nd rfl (.inl rfl) (pe_callB (cr_sortedE hr.units ord3) (by rfl) z.sorted (by decide +kernel) (pa_cons (pe_lc2 (own := [("b", 7), ("c", 8)]) (vs1 := [8]) (g := gName 7) (g1 := gName 8) (tt := tYes) (tt1 := tYes) (wi1 := iList K (tCall (spNrs K) [] E0 (tCons (tVar 1) (tCons (tVar 3) tNil)))) (te := (tTup (tCons (tCB (fun xs H Q => ∃ i j, xs = [V.int i, V.int j] ∧ Q (.int (if j > i then j else i)) H) (tCons (tCall (spFar K) [] E0 (tCons (tVar 7) (tCons (tVar 0) (tCons (tVar 3) (tCons (tOp (rIxT K) (tVar 1) (tC (.int 1))) tNil))))) (tCons (tCall (spFar K) [] E0 (tCons (tVar 8) (tCons (tVar 1) (tCons (tVar 3) (tCons (tOp (rIxT K) (tVar 0) (tC (.int 1))) tNil))))) tNil))) (tCons (tVar 7) (tCons (tVar 8) tNil))))) (by rfl) sc_nearest_still.nd (pi_list (pe_cal c_numbers_near hr (pa_cons (pv 0) (pa_cons (pv 3) pa_nil)))) (blkOk_by (own := [("b", 7), ("c", 8)]) (N := ["one", "two", "point", "end", "ranked", "first", "barred", "b", "c", "far"]) (sc := defScope s_nearest_still) (by decide +kernel)) (by decide) (fun _ _ _ _ _ => by exact (pg_name (i := 7) sc_nearest_still.nd rfl (.inl rfl))) (fun _ _ _ _ _ => by exact pts_nil) (fun _ _ _ _ _ => by exact (pi_list (pe_cal c_numbers_near hr (pa_cons (pv 1) (pa_cons (pv 3) pa_nil))))) (fun _ _ _ _ _ => by exact (pg_name (i := 8) sc_nearest_still.nd rfl (.inl rfl))) (fun _ _ _ _ _ => by exact pts_nil) (fun _ _ _ _ _ => by exact (pe_tup (pa_cons (pe_callB (call_max2 rfl) (by rfl) z.max (by decide +kernel) (pa_cons (pe_cal c_far_off hr (pa_cons (pv 7) (pa_cons (pv 0) (pa_cons (pv 3) (pa_cons (pe_ix ix_tup (pv 1) pe_int (fun _ _ => rfl)) pa_nil))))) (pa_cons (pe_cal c_far_off hr (pa_cons (pv 8) (pa_cons (pv 1) (pa_cons (pv 3) (pa_cons (pe_ix ix_tup (pv 0) pe_int (fun _ _ => rfl)) pa_nil))))) pa_nil))) (pa_cons (pv 7) (pa_cons (pv 8) pa_nil)))))) pa_nil)))
      (C8.pss_cut (ps_set (i := 5) sc_nearest_still.nd rfl (.inl rfl) (pe_bm PySem.F.plainAttrs_list PySem.F.slot_list_index PySem.F.type_list_index mt_index (pe_lc (own := [("far", 9), ("b", 7), ("c", 8)]) (g := gTup K 3 (gCons (gName 9) (gCons (gName 7) (gCons (gName 8) gNil)))) (tt := tYes) (te := (tCall spStill [] E0 (tCons (tVar 7) (tCons (tVar 8) (tCons (tVar 3) tNil))))) (by rfl) sc_nearest_still.nd (pi_list (pv 4)) (blkOk_by (own := [("far", 9), ("b", 7), ("c", 8)]) (N := ["one", "two", "point", "end", "ranked", "first", "barred", "b", "c", "far"]) (sc := defScope s_nearest_still) (by decide +kernel)) (fun _ _ _ _ _ => by exact (pg_tup (by rfl) (pgs_cons (pg_name (i := 9) sc_nearest_still.nd rfl (.inl rfl)) (pgs_cons (pg_name (i := 7) sc_nearest_still.nd rfl (.inl rfl)) (pgs_cons (pg_name (i := 8) sc_nearest_still.nd rfl (.inl rfl)) pgs_nil))))) (fun _ _ _ _ _ => by exact pts_nil) (fun _ _ _ _ _ => by exact (pe_cal c_is_still_pair hr (pa_cons (pv 7) (pa_cons (pv 8) (pa_cons (pv 3) pa_nil)))))) (pa_cons pe_bl pa_nil)))
      (pss_cons (ps_set (i := 6) sc_nearest_still.nd rfl (.inl rfl) (pe_callB (cr_sortedE hr.units ordW) (by rfl) z.sorted (by decide +kernel) (pa_cons (pe_lc (own := [("far", 9), ("b", 7), ("c", 8)]) (g := gTup K 3 (gCons (gName 9) (gCons (gName 7) (gCons (gName 8) gNil)))) (tt := tYes) (te := (tTup (tCons (tVar 7) (tCons (tVar 8) (tCons (tIf (tTest (tOp (rI0 fun i j => V.bl (decide (i < j))) (tCB (fun xs H Q => ∃ i, xs = [V.int i] ∧ Q (.int (if i < 0 then -i else i)) H) (tCons (tVar 8) tNil)) (tVar 3))) (tC (.str "one")) (tC (.str "two"))) tNil))))) (by rfl) sc_nearest_still.nd (pi_list (pe_slice sl_list (pv 4) po_none (po_some (pv 5)))) (blkOk_by (own := [("far", 9), ("b", 7), ("c", 8)]) (N := ["one", "two", "point", "end", "ranked", "first", "barred", "b", "c", "far"]) (sc := defScope s_nearest_still) (by decide +kernel)) (fun _ _ _ _ _ => by exact (pg_tup (by rfl) (pgs_cons (pg_name (i := 9) sc_nearest_still.nd rfl (.inl rfl)) (pgs_cons (pg_name (i := 7) sc_nearest_still.nd rfl (.inl rfl)) (pgs_cons (pg_name (i := 8) sc_nearest_still.nd rfl (.inl rfl)) pgs_nil))))) (fun _ _ _ _ _ => by exact pts_nil) (fun _ _ _ _ _ => by exact (pe_tup (pa_cons (pv 7) (pa_cons (pv 8) (pa_cons (pe_ifExp (pt_cmpR op_lt (pe_callB call_abs (by rfl) z.abs (by decide +kernel) (pa_cons (pv 8) pa_nil)) (pv 3) (nomark _)) pe_str pe_str) pa_nil)))))) pa_nil)))
      (pss_one (ps_ret (pe_tup (pa_cons (pe_ix ix_tup (pe_ix ix_list (pv 4) (pv 5) (fun _ _ => rfl)) pe_int (fun _ _ => rfl)) (pa_cons (pe_ix ix_tup (pe_ix ix_list (pv 4) (pv 5) (fun _ _ => rfl)) pe_int (fun _ _ => rfl)) (pa_cons (pv 6) pa_nil))))))))))), ?_⟩
    refine ⟨_, rfl, _, rfl, p1, p2, t1, b1, t2, b2, E, rfl, W, fun H0 S0 => ⟨_, rfl, iteF ?_⟩⟩
    refine ⟨_, rfl, _, _, rfl, rfl, s, 20 + 1, rfl, s0, by omega, _, rfl, iteF ?_⟩
    refine ⟨_, rfl, _, _, rfl, rfl, ⟨s0, by omega, by decide⟩, ?_⟩
    have eE : (1 : Int) * 2 ^ s.toNat = E := by rw [Int.one_mul, hE]
    dsimp only
    rw [eE]
    have W0 := W.same S0
    obtain ⟨f1, f2, _, _, wn, l1, l2, l3, l4, lE⟩ := id W0
    have w1 := wn.p1
    have w2 := wn.p2
    have we := wn.e
    refine ⟨fun σ Hr => ∃ (r : Addr) (qs : List (V × T3)), σ = [some (.ref p1), some (.ref p2), some (.int s), some (.int E), some (.ref r), none, none, none, none, none] ∧ Same H0 Hr ∧ Hr r = some (.lst (qs.map (·.1))) ∧ (∀ p ∈ qs, At3 Hr p) ∧ (qs.map (·.2)).Perm ((List.range 25).map (gk t1 b1 t2 b2 E)) ∧ (qs.map (·.2)).Pairwise (fun x y => le3 x y = true), ?_, fun σ Hr hM => ?_⟩
    · refine ⟨_, rfl, _, rfl, p1, t1, b1, E, rfl, SqT.of f1, w1, l2, l1, we, lE, fun A hA => ⟨A, rfl, ⟨_, SqL.of upd_same⟩, fun D hD => ?_⟩⟩
      have SA := same_new (o := .lst (rgV (t1 * E / b1 - 2) (t1 * E / b1 + 2 + 1))) hA
      have hAA : (upd H0 A (.lst (rgV (t1 * E / b1 - 2) (t1 * E / b1 + 2 + 1)))) A = some (.lst (rgV (t1 * E / b1 - 2) (t1 * E / b1 + 2 + 1))) := upd_same
      generalize upd H0 A (.lst (rgV (t1 * E / b1 - 2) (t1 * E / b1 + 2 + 1))) = HA at SA hAA hD ⊢
      refine walk_w (walk_list (K := K) (a := A) (xs := rgV (t1 * E / b1 - 2) (t1 * E / b1 + 2 + 1))) (fun i G => Same HA G ∧ ∃ ps : List (V × T3), G D = some (.lst (ps.map (·.1))) ∧ (∀ p ∈ ps, At3 G p) ∧ ps.map (·.2) = (List.range (5 * i)).map (gk t1 b1 t2 b2 E)) ⟨same_new hD, [], upd_same, (fun p hp => absurd hp List.not_mem_nil), rfl⟩ (fun i G _ hP => SqL.of (hP.1 _ _ hAA)) (fun i x G G' hi hP hY => ?_) (fun G hP => ?_)
      · obtain ⟨sG, ps, hps, h3, em⟩ := hP
        obtain ⟨rfl, hx⟩ := hY
        rw [rg5_len] at hi
        rw [rg5 _ i hi] at hx
        cases hx
        have A1 := sG _ _ (SA _ _ f1)
        have A2 := sG _ _ (SA _ _ f2)
        refine ⟨rfl, _, rfl, _, rfl, p2, t2, b2, E, rfl, SqT.of A2, w2, l4, l3, we, lE, fun B hB => ⟨B, rfl, ⟨_, SqL.of upd_same⟩, ?_⟩⟩
        have SB := same_new (o := .lst (rgV (t2 * E / b2 - 2) (t2 * E / b2 + 2 + 1))) hB
        have nBD : B ≠ D := fun e => by
          rw [e, hps] at hB
          cases hB
        refine walk_w (walk_list (K := K) (a := B) (xs := rgV (t2 * E / b2 - 2) (t2 * E / b2 + 2 + 1))) (fun j G2 => Same HA G2 ∧ G2 B = some (.lst (rgV (t2 * E / b2 - 2) (t2 * E / b2 + 2 + 1))) ∧ ∃ ps : List (V × T3), G2 D = some (.lst (ps.map (·.1))) ∧ (∀ p ∈ ps, At3 G2 p) ∧ ps.map (·.2) = (List.range (5 * i + j)).map (gk t1 b1 t2 b2 E)) ⟨sG.trans SB, upd_same, ps, SB _ _ hps, (fun p hp => (h3 p hp).same SB), em⟩ (fun j G2 _ hP => SqL.of hP.2.1) (fun j y G2 G3 hj hP hY => ?_) (fun G2 hP => ?_)
        · obtain ⟨s2, hB2, ps2, hp2, h32, em2⟩ := hP
          obtain ⟨rfl, hy⟩ := hY
          rw [rg5_len] at hj
          rw [rg5 _ j hj] at hy
          cases hy
          have B1 := s2 _ _ (SA _ _ f1)
          have B2 := s2 _ _ (SA _ _ f2)
          have len2 := congrArg List.length em2
          rw [List.length_map, List.length_map, List.length_range] at len2
          refine ⟨rfl, _, rfl, _, rfl, _, rfl, _, rfl, p2, _, 1, _, rfl, rfl, SqT.of B2, a1, p1, _, t1, b1, E, b2, rfl, SqT.of B1, l2, l4, we, lE, ?_⟩
          refine ⟨_, rfl, _, rfl, _, rfl, _, rfl, p1, _, 1, _, rfl, rfl, SqT.of B1, a1, p2, _, t2, b2, E, b1, rfl, SqT.of B2, l4, l2, we, lE, ?_⟩
          refine ⟨_, _, rfl, _, rfl, _, rfl, (by show 3 ≤ sizeLine; decide), fun Tp hTp => ?_⟩
          have ek : gk t1 b1 t2 b2 E (5 * i + j) = tr t1 b1 t2 b2 E (t1 * E / b1 - 2 + (i : Nat)) (t2 * E / b2 - 2 + (j : Nat)) := by
            unfold gk
            rw [show (5 * i + j) / 5 = i by omega, show (5 * i + j) % 5 = j by omega]
          have sT := same_new (o := .tup [.int (offI t1 b1 t2 b2 E (t1 * E / b1 - 2 + (i : Nat)) (t2 * E / b2 - 2 + (j : Nat))), .int (t1 * E / b1 - 2 + (i : Nat)), .int (t2 * E / b2 - 2 + (j : Nat))]) hTp
          have nTD : Tp ≠ D := fun e => by
            rw [e, hp2] at hTp
            cases hTp
          refine ⟨_, sT _ _ hp2, small1000 (by rw [List.length_map]; omega), fun x o e => ?_, ?_, ps2 ++ [(.ref Tp, gk t1 b1 t2 b2 E (5 * i + j))], ?_, fun p hp => ?_, ?_⟩
          · rw [upd_ne (ne_of_none e hD)]
            exact sT _ _ (s2 _ _ e)
          · rw [upd_ne nBD]
            exact sT _ _ hB2
          · rw [upd_same, List.map_append]
            rfl
          · rcases List.mem_append.mp hp with hp | hp
            · exact ((h32 p hp).same sT).upd (sT _ _ hp2)
            · rw [List.mem_singleton.mp hp]
              refine ⟨Tp, rfl, ?_⟩
              rw [upd_ne nTD, ek]
              exact upd_same
          · show _ = (List.range ((5 * i + j) + 1)).map _
            rw [List.range_succ, List.map_append, List.map_append, em2]
            rfl
        · obtain ⟨s2, hB2, ps2, hp2, h32, em2⟩ := hP
          rw [rg5_len] at em2
          exact ⟨s2, ps2, hp2, h32, em2⟩
      · obtain ⟨sG, ps, hps, h3, em⟩ := hP
        rw [rg5_len] at em
        refine ⟨D, ps, rfl, SqL.of hps, fun p hp => (h3 p hp).dp, fun qs r pm pw hr' => ?_⟩
        have sR := same_new (o := .lst (qs.map (·.1))) hr'
        refine ⟨r, qs, rfl, SA.trans (sG.trans sR), upd_same, fun p hp => (h3 p (pm.mem_iff.mp hp)).same sR, ?_, List.pairwise_map.mpr pw⟩
        have := pm.map (·.2)
        rw [em] at this
        exact this
    obtain ⟨r, qs, rfl, sR, hr', h3, pm, pw⟩ := hM
    have S1 := S0.trans sR
    have f1' := sR _ _ f1
    have f2' := sR _ _ f2
    obtain ⟨j, h, hj, hst, hno, hnear⟩ := near_ranked wn pm pw
    have q25 : qs.length = 25 := by
      have := pm.length_eq
      rw [List.length_map, List.length_map, List.length_range] at this
      exact this
    have lj : j < qs.length := by
      have := (List.getElem?_eq_some_iff.mp hj).1
      rw [List.length_map] at this
      exact this
    rw [List.getElem?_map] at hj
    obtain ⟨ph, hph, eh⟩ := Option.map_eq_some_iff.mp hj
    refine ⟨fun σ Hf => σ = [some (.ref p1), some (.ref p2), some (.int s), some (.int E), some (.ref r), some (.int (j : Nat)), none, none, none, none] ∧ Same Hr Hf, ?_, fun σ Hf hM => ?_⟩
    · refine ⟨_, rfl, r, rfl, ⟨_, SqL.of hr'⟩, fun D hD => lc_list (K := K) (a := r) (xs := qs.map (·.1)) (fun i G => Same Hr G ∧ G D = some (.lst ((qs.take i).map fun p => V.bl (stillB E p.2.2.1 p.2.2.2)))) ⟨same_new hD, upd_same⟩ (fun i G _ hP => SqL.of (hP.1 _ _ hr')) (fun i x G hx hP => ?_) (fun G hP => ?_)⟩
      · obtain ⟨sG, hacc⟩ := hP
        rw [List.getElem?_map] at hx
        obtain ⟨p, hp, rfl⟩ := Option.map_eq_some_iff.mp hx
        obtain ⟨tq, ep, ht⟩ := h3 p (List.mem_of_getElem? hp)
        have li := (List.getElem?_eq_some_iff.mp hp).1
        refine ⟨tq, _, ep, SqT.of (sG _ _ ht), rfl, _, _, rfl, _, _, rfl, _, _, rfl, rfl, rfl, ?_⟩
        refine ⟨_, rfl, _, rfl, _, rfl, _, _, E, rfl, _, hacc, ?_, fun b o e => ?_, ?_⟩
        · rw [List.length_map, List.length_take]
          exact small1000 (by omega)
        · rw [upd_ne (ne_of_none e hD)]
          exact sG _ _ e
        · rw [upd_same, List.take_succ, hp, Option.toList_some, List.map_append]
          rfl
      · obtain ⟨sG, hacc⟩ := hP
        rw [List.length_map, List.take_length] at hacc
        refine ⟨.inl ⟨rfl, _, SqL.of hacc⟩, D, _, .bl true, j, .bl true, rfl, rfl, SqL.of hacc, rfl, ?_, ?_, rfl, fun m z' hm hz => ?_, rfl, sG⟩
        · rw [List.all_map, List.all_eq_true]
          intro x _
          rfl
        · rw [List.getElem?_map, hph]
          show some (V.bl (stillB E ph.2.2.1 ph.2.2.2)) = _
          rw [eh, hst]
        · rw [List.getElem?_map] at hz
          obtain ⟨p, hp, rfl⟩ := Option.map_eq_some_iff.mp hz
          have := hno m p.2 hm (by rw [List.getElem?_map, hp]; rfl)
          rw [this]
          rfl
    obtain ⟨rfl, sF⟩ := hM
    have hrF := sF _ _ hr'
    refine ⟨_, rfl, _, rfl, _, rfl, r, _, rfl, SqL.of hrF, fun C hC => ?_⟩
    rw [cut_take _ j (by rw [List.length_map]; omega), ← List.map_take]
    refine ⟨C, rfl, ⟨_, SqL.of upd_same⟩, fun D hD => ?_⟩
    have SC := same_new (o := .lst ((qs.take j).map (·.1))) hC
    have hCC : (upd Hf C (.lst ((qs.take j).map (·.1)))) C = some (.lst ((qs.take j).map (·.1))) := upd_same
    generalize upd Hf C (.lst ((qs.take j).map (·.1))) = HC at SC hCC hD ⊢
    have SFC := sF.trans SC
    refine lc_list (K := K) (a := C) (xs := (qs.take j).map (·.1)) (fun i G => Same HC G ∧ ∃ ps : List (V × Int × Int × Bool), G D = some (.lst (ps.map (·.1))) ∧ (∀ p ∈ ps, AtW G p) ∧ ps.map (·.2) = ((qs.take j).take i).map fun p => (p.2.2.1, p.2.2.2, decide (¬ absI p.2.2.2 < E))) ⟨same_new hD, [], upd_same, (fun p hp => absurd hp List.not_mem_nil), rfl⟩ (fun i G _ hP => SqL.of (hP.1 _ _ hCC)) (fun i x G hx hP => ?_) (fun G hP => ?_)
    · obtain ⟨sG, ps, hps, hw, em⟩ := hP
      rw [List.getElem?_map] at hx
      obtain ⟨p, hp, rfl⟩ := Option.map_eq_some_iff.mp hx
      have hpm : p ∈ qs := List.mem_of_mem_take (List.mem_of_getElem? hp)
      obtain ⟨tq, ep, ht⟩ := h3 p hpm
      have li := (List.getElem?_eq_some_iff.mp hp).1
      have lps := congrArg List.length em
      rw [List.length_map, List.length_map, List.length_take, List.length_take] at lps
      have fin : ∀ (bw : Bool), bw = decide (¬ absI p.2.2.2 < E) → ∀ Tp, G Tp = none → ∃ acc, (upd G Tp (.tup [.int p.2.2.1, .int p.2.2.2, .str (wS bw)])) D = some (.lst acc) ∧ acc.length < sizeLine ∧ (Same HC (upd (upd G Tp (.tup [.int p.2.2.1, .int p.2.2.2, .str (wS bw)])) D (.lst (acc ++ [.ref Tp]))) ∧ ∃ ps : List (V × Int × Int × Bool), (upd (upd G Tp (.tup [.int p.2.2.1, .int p.2.2.2, .str (wS bw)])) D (.lst (acc ++ [.ref Tp]))) D = some (.lst (ps.map (·.1))) ∧ (∀ p' ∈ ps, AtW (upd (upd G Tp (.tup [.int p.2.2.1, .int p.2.2.2, .str (wS bw)])) D (.lst (acc ++ [.ref Tp]))) p') ∧ ps.map (·.2) = ((qs.take j).take (i + 1)).map fun p => (p.2.2.1, p.2.2.2, decide (¬ absI p.2.2.2 < E))) := fun bw hbw Tp hTp => by
        have sT := same_new (o := .tup [.int p.2.2.1, .int p.2.2.2, .str (wS bw)]) hTp
        have nTD : Tp ≠ D := fun e => by
          rw [e, hps] at hTp
          cases hTp
        refine ⟨_, sT _ _ hps, small1000 (by rw [List.length_map]; omega), fun x o e => ?_, ps ++ [(.ref Tp, p.2.2.1, p.2.2.2, bw)], ?_, fun p' hp' => ?_, ?_⟩
        · rw [upd_ne (ne_of_none e hD)]
          exact sT _ _ (sG _ _ e)
        · rw [upd_same, List.map_append]
          rfl
        · rcases List.mem_append.mp hp' with hp' | hp'
          · exact ((hw p' hp').same sT).upd (sT _ _ hps)
          · rw [List.mem_singleton.mp hp']
            refine ⟨Tp, rfl, ?_⟩
            rw [upd_ne nTD]
            exact upd_same
        · rw [List.take_succ, hp, Option.toList_some, List.map_append, List.map_append, em, hbw]
          rfl
      refine ⟨tq, _, ep, SqT.of (sG _ _ (SFC _ _ ht)), rfl, _, _, rfl, _, _, rfl, _, _, rfl, rfl, rfl, ?_⟩
      refine ⟨_, rfl, _, rfl, _, rfl, _, rfl, _, rfl, _, _, rfl, rfl, _, rfl, ite2 (fun c => ?_) (fun c => ?_)⟩
      · have hc : absI p.2.2.2 < E := toB c
        exact ⟨(by show 3 ≤ sizeLine; decide), fin false (by rw [decide_eq_false (fun n => n hc)])⟩
      · have hc : ¬ absI p.2.2.2 < E := toNB c
        exact ⟨(by show 3 ≤ sizeLine; decide), fin true (by rw [decide_eq_true hc])⟩
    · obtain ⟨sG, ps, hps, hw, em⟩ := hP
      rw [List.length_map, List.take_length] at em
      refine ⟨D, ps, rfl, SqL.of hps, fun p hp => (hw p hp).dp, fun ws M pmW pwW hM => ?_⟩
      have sM := same_new (o := .lst (ws.map (·.1))) hM
      have SS := SFC.trans (sG.trans sM)
      obtain ⟨th, eth, hth⟩ := h3 ph (List.mem_of_getElem? hph)
      have hrM := SS _ _ hr'
      have hthM := SS _ _ hth
      have at_j : atI (qs.map (·.1)) ((j : Nat) : Int) = some (.ref th) := atI_nat (by rw [List.getElem?_map, hph]; exact congrArg some eth)
      refine ⟨_, rfl, _, rfl, r, _, _, _, rfl, rfl, SqL.of hrM, at_j, th, _, 1, _, rfl, rfl, SqT.of hthM, a1, ?_⟩
      refine ⟨_, rfl, _, rfl, r, _, _, _, rfl, rfl, SqL.of hrM, at_j, th, _, 2, _, rfl, rfl, SqT.of hthM, a2, ?_⟩
      refine ⟨_, rfl, (by show 3 ≤ sizeLine; decide), fun u hu => ?_⟩
      have sU := same_new (o := .tup [.int ph.2.2.1, .int ph.2.2.2, .ref M]) hu
      have nMu : M ≠ u := ne_of_none upd_same hu
      have near := hnear (ws.map (·.2)) (by
        have := pmW.map (·.2)
        rw [em] at this
        rw [← List.map_take, List.map_map]
        exact this) (List.pairwise_map.mpr pwW)
      rw [← eh] at near
      refine q u M ph.2.2.1 ph.2.2.2 (ws.map (·.2)) _ ?_ ?_ nMu (S1.trans (SS.trans sU)) upd_same ⟨ws, ?_, fun p hp => ((hw p (pmW.mem_iff.mp hp)).same sM).same sU, rfl⟩ near
      · exact (S1.trans SS).free hu
      · exact (S1.trans (SFC.trans sG)).free hM
      · exact sU _ _ upd_same
end
end E1

namespace E1
open PySem PySem.Spec PyProof.Rows L2
def lcmI (c b : Int) : Int := if c % b = 0 then c else c / gI c b * b
theorem gI_dl (c b : Int) : gI c b ∣ c := by
  unfold gI
  exact Int.gcd_dvd_left ..
theorem gI_dr (c b : Int) : gI c b ∣ b := by
  unfold gI
  exact Int.gcd_dvd_right ..
theorem lcmI_ok {c b : Int} (hc : 0 < c) (hb : 0 < b) : 0 < lcmI c b ∧ c ∣ lcmI c b ∧ b ∣ lcmI c b ∧ ∀ D, c ∣ D → b ∣ D → lcmI c b ∣ D := by
  unfold lcmI
  split
  · next h => exact ⟨hc, Int.dvd_refl c, Int.dvd_of_emod_eq_zero h, fun D h1 _ => h1⟩
  · have g0 := gI_pos (t := c) (b := b) (by omega)
    obtain ⟨x, hx⟩ := gI_dl c b
    obtain ⟨y, hy⟩ := gI_dr c b
    have cop : Nat.gcd x.natAbs y.natAbs = 1 := by
      have h := Int.gcd_mul_left (gI c b) x y
      rw [← hx, ← hy] at h
      have h2 : Int.gcd c b = (gI c b).natAbs := by
        unfold gI
        rw [Int.natAbs_natCast]
      rw [h2] at h
      have : (gI c b).natAbs * 1 = (gI c b).natAbs * Int.gcd x y := by
        rw [Nat.mul_one]
        exact h
      exact (Nat.eq_of_mul_eq_mul_left (by omega) this).symm
    generalize gI c b = g at *
    have ex : c / g = x := Int.ediv_eq_of_eq_mul_right (by omega) hx
    rw [ex]
    have x0 : 0 < x := by
      rcases Int.lt_trichotomy x 0 with z | z | z
      · have := Int.mul_neg_of_pos_of_neg g0 z
        omega
      · rw [z, Int.mul_zero] at hx
        omega
      · exact z
    refine ⟨Int.mul_pos x0 hb, ⟨y, ?_⟩, ⟨x, Int.mul_comm _ _⟩, fun D h1 h2 => ?_⟩
    · subst hx hy
      grind
    · obtain ⟨d1, e1⟩ := h1
      obtain ⟨d2, e2⟩ := h2
      have e3 : x * d1 = y * d2 := by
        have : g * (x * d1) = g * (y * d2) := by
          rw [← Int.mul_assoc, ← Int.mul_assoc, ← hx, ← hy, ← e1, ← e2]
        exact Int.eq_of_mul_eq_mul_left (by omega) this
      have yd : y.natAbs ∣ d1.natAbs := by
        have h1 : y.natAbs ∣ x.natAbs * d1.natAbs := by
          rw [← Int.natAbs_mul, e3, Int.natAbs_mul]
          exact ⟨_, rfl⟩
        have cp : Nat.Coprime y.natAbs x.natAbs := Nat.Coprime.symm cop
        exact cp.dvd_of_dvd_mul_left h1
      obtain ⟨k, hk⟩ := Int.natAbs_dvd_natAbs.mp yd
      refine ⟨k, ?_⟩
      subst hx hy hk
      grind
def com (bs : List Int) : Int := bs.foldl lcmI 1
theorem com_ok : ∀ (bs : List Int) (c : Int), 0 < c → (∀ b ∈ bs, 0 < b) → 0 < bs.foldl lcmI c ∧ c ∣ bs.foldl lcmI c ∧ (∀ b ∈ bs, b ∣ bs.foldl lcmI c) ∧ ∀ D, c ∣ D → (∀ b ∈ bs, b ∣ D) → bs.foldl lcmI c ∣ D
  | [], c, hc, _ => ⟨hc, Int.dvd_refl c, fun b h => absurd h List.not_mem_nil, fun D h _ => h⟩
  | b :: bs, c, hc, hb => by
    obtain ⟨a1, a2, a3, a4⟩ := lcmI_ok hc (hb b List.mem_cons_self)
    obtain ⟨i1, i2, i3, i4⟩ := com_ok bs (lcmI c b) a1 fun x hx => hb x (List.mem_cons_of_mem _ hx)
    rw [List.foldl_cons]
    refine ⟨i1, Int.dvd_trans a2 i2, fun x hx => ?_, fun D h1 h2 => i4 D (a4 D h1 (h2 b List.mem_cons_self)) fun x hx => h2 x (List.mem_cons_of_mem _ hx)⟩
    rcases List.mem_cons.mp hx with rfl | hx
    · exact Int.dvd_trans a3 i2
    · exact i3 x hx
/-- tops over one bottom -/
def tops (c : Int) (ps : List (Int × Int)) : List Int := ps.map fun p => p.1 * (c / p.2)
inductive PrsAt (H : Hp) : List V → List (Int × Int) → Prop where
  | nil : PrsAt H [] []
  | cons {p : Addr} {t b : Int} {vs : List V} {ps : List (Int × Int)} (e : H p = some (.tup [.int t, .int b])) (r : PrsAt H vs ps) : PrsAt H (.ref p :: vs) ((t, b) :: ps)
theorem PrsAt.same {H H' : Hp} {vs : List V} {ps : List (Int × Int)} (h : PrsAt H vs ps) (s : Same H H') : PrsAt H' vs ps := by
  induction h with
  | nil => exact .nil
  | cons e _ ih => exact .cons (s _ _ e) ih
theorem PrsAt.but {H H' : Hp} {a : Addr} {xs : List V} {vs : List V} {ps : List (Int × Int)} (h : PrsAt H vs ps) (s : SameBut a H H') (ha : H a = some (.lst xs)) : PrsAt H' vs ps := by
  induction h with
  | nil => exact .nil
  | cons e _ ih => exact .cons (s _ _ (ne_of e ha (fun z => nomatch z)) e) ih
theorem PrsAt.len {H : Hp} {vs : List V} {ps : List (Int × Int)} (h : PrsAt H vs ps) : vs.length = ps.length := by
  induction h with
  | nil => rfl
  | cons _ _ ih => rw [List.length_cons, List.length_cons, ih]
theorem PrsAt.get {H : Hp} {vs : List V} {ps : List (Int × Int)} (h : PrsAt H vs ps) : ∀ {i : Nat} {v : V}, vs[i]? = some v → ∃ p t b, v = .ref p ∧ ps[i]? = some (t, b) ∧ H p = some (.tup [.int t, .int b]) := by
  induction h with
  | nil => intro i v z; cases z
  | cons e _ ih =>
    intro i v z
    cases i with
    | zero =>
      cases z
      exact ⟨_, _, _, rfl, rfl, e⟩
    | succ i => exact ih z
theorem PrsAt.at {H : Hp} {vs : List V} {ps : List (Int × Int)} (h : PrsAt H vs ps) : ∀ {i : Nat} {x : Int × Int}, ps[i]? = some x → ∃ p, vs[i]? = some (.ref p) ∧ H p = some (.tup [.int x.1, .int x.2]) := by
  induction h with
  | nil => intro i v z; cases z
  | cons e _ ih =>
    intro i v z
    cases i with
    | zero =>
      cases z
      exact ⟨_, rfl, e⟩
    | succ i => exact ih z
theorem PrL_get {H : Hp} {vs : List V} {ps : List (Int × Int)} (h : PrsAt H vs ps) {i : Nat} {v : V} (e : vs[i]? = some v) : ∃ p t b, v = .ref p ∧ ps[i]? = some (t, b) ∧ (t, b) ∈ ps ∧ H p = some (.tup [.int t, .int b]) := by
  obtain ⟨p, t, b, e1, e2, e3⟩ := h.get e
  exact ⟨p, t, b, e1, e2, List.mem_of_getElem? e2, e3⟩
/-- pairs whose bottoms are above 0 and divide D -/
def Btm (D : Int) (ps : List (Int × Int)) : Prop := D ≠ 0 ∧ D.natAbs < 2 ^ 2000 ∧ ∀ p ∈ ps, 0 < p.2 ∧ p.2 ∣ D ∧ p.1.natAbs < 2 ^ 3000
theorem Btm.lt {D : Int} {ps : List (Int × Int)} (h : Btm D ps) {b : Int} (hb : 0 < b) (d : b ∣ D) : b.natAbs < 2 ^ 2000 := by
  have : b.natAbs ∣ D.natAbs := Int.natAbs_dvd_natAbs.mpr d
  have := Nat.le_of_dvd (by have := h.1; omega) this
  exact Nat.lt_of_le_of_lt this h.2.1
theorem Btm.com {D : Int} {ps : List (Int × Int)} (h : Btm D ps) : 0 < com (ps.map (·.2)) ∧ com (ps.map (·.2)) ∣ D ∧ ∀ p ∈ ps, p.2 ∣ com (ps.map (·.2)) := by
  have hp : ∀ b ∈ ps.map (·.2), 0 < b ∧ b ∣ D := fun b hb => by
    obtain ⟨p, h1, rfl⟩ := List.mem_map.mp hb
    exact ⟨(h.2.2 p h1).1, (h.2.2 p h1).2.1⟩
  obtain ⟨c1, _, c3, c4⟩ := com_ok (ps.map (·.2)) 1 (by decide) fun b hb => (hp b hb).1
  exact ⟨c1, c4 D (Int.one_dvd D) fun b hb => (hp b hb).2, fun p hp' => c3 _ (List.mem_map.mpr ⟨p, hp', rfl⟩)⟩
theorem Btm.take {D : Int} {ps : List (Int × Int)} (h : Btm D ps) (n : Nat) : Btm D (ps.take n) := ⟨h.1, h.2.1, fun p hp => h.2.2 p (List.mem_of_mem_take hp)⟩
def spCom : Sp := fun vs H Q _ => ∃ (a : Addr) (ws : List V) (ps : List (Int × Int)) (D : Int), vs = [.ref a] ∧ H a = some (.lst ws) ∧ PrsAt H ws ps ∧ Btm D ps ∧ Q (.int (com (ps.map (·.2)))) H
def spCleared : Sp := fun vs H Q _ => ∃ (a : Addr) (ws : List V) (ps : List (Int × Int)) (D : Int), vs = [.ref a] ∧ H a = some (.lst ws) ∧ PrsAt H ws ps ∧ Btm D ps ∧ ps.length ≤ 1000 ∧
  ∀ T l H', Same H H' → H' T = some (.tup [.ref l, .int (com (ps.map (·.2)))]) → H' l = some (.lst ((tops (com (ps.map (·.2))) ps).map V.int)) → Q (.ref T) H'

theorem small1000' {n : Nat} (h : n ≤ 1000) : n < sizeLine := Nat.lt_of_le_of_lt h (by decide)
/-- a list of three fractions whose first is 1, the others b and c over S -/
structure B3 (H : Hp) (a : Addr) (S b c : Int) : Prop where
  ex : ∃ (q0 q1 q2 : Addr) (t1 b1 t2 b2 : Int), H a = some (.lst [.ref q0, .ref q1, .ref q2]) ∧ H q0 = some (.tup [.int 1, .int 1]) ∧ H q1 = some (.tup [.int t1, .int b1]) ∧ H q2 = some (.tup [.int t2, .int b2]) ∧
    0 < b1 ∧ 0 < b2 ∧ b1 ∣ S ∧ b2 ∣ S ∧ t1 * S = b * b1 ∧ t2 * S = c * b2 ∧ gI t1 b1 = 1 ∧ gI t2 b2 = 1 ∧ t1.natAbs ≤ b.natAbs ∧ t2.natAbs ≤ c.natAbs
  s0 : 1 ≤ S
  s1 : S ≤ 2 ^ 20
  bb : b.natAbs < 2 ^ 30
  cb : c.natAbs < 2 ^ 30
def Lows (ps : List (Int × Int)) : Prop := ∀ p ∈ ps, 1 ≤ p.2 ∧ gI p.1 p.2 = 1
def spIsFrs : Sp := fun vs H Q _ => ∃ (a : Addr) (ws : List V) (ps : List (Int × Int)), vs = [.ref a] ∧ H a = some (.lst ws) ∧ PrsAt H ws ps ∧ Lows ps ∧ ps.length ≤ 1000 ∧ ∀ H', Same H H' → Q (.bl true) H'
def spBot : Sp := fun vs H Q _ => ∃ (a : Addr) (q0 : Addr) (ws : List V) (ps : List (Int × Int)), vs = [.ref a] ∧ H a = some (.lst (.ref q0 :: ws)) ∧ H q0 = some (.tup [.int 1, .int 1]) ∧ PrsAt H (.ref q0 :: ws) ps ∧ Lows ps ∧ ps.length ≤ 1000 ∧ ∀ H', Same H H' → Q (.bl true) H'
def spChk : Sp := fun vs H Q _ => ∃ (a : Addr) (q0 : Addr) (ws : List V) (ps : List (Int × Int)), vs = [.ref a] ∧ H a = some (.lst (.ref q0 :: ws)) ∧ H q0 = some (.tup [.int 1, .int 1]) ∧ PrsAt H (.ref q0 :: ws) ps ∧ Lows ps ∧ ps.length ≤ 1000 ∧ ∀ H', Same H H' → Q .non H'
def spLong : Sp := fun vs H Q _ => ∃ c : Int, vs = [.int c] ∧ c.natAbs < 2 ^ 1000 ∧ Q (.bl false) H
def spShort : Sp := fun vs H Q _ => ∃ (a : Addr) (n0 : Int) (ns : List Int), vs = [.ref a] ∧ H a = some (.lst ((n0 :: ns).map V.int)) ∧ 0 < n0 ∧ n0.natAbs < 2 ^ 200 ∧ ns.length ≤ 100 ∧
  ∀ (g : Int) (M : Addr) (H' : Hp), 0 < g → (∀ n ∈ n0 :: ns, g ∣ n) → Same H H' → H' M = some (.lst (((n0 :: ns).map (· / g)).map V.int)) → Q (.ref M) H'
/-- the places of a list stepped down, ahead of their shortening -/
def stepL (f l : Int) (xs ys : List Int) : List Int := List.zipWith (fun o r => f * o - l * r) xs ys
def spStep (K : PySem.W.Frag) : Sp := fun vs H Q _ => ∃ (a : Addr) (n0 : Int) (ns : List Int) (l : Int), vs = [.ref a] ∧ H a = some (.lst ((n0 :: (ns ++ [l])).map V.int)) ∧ 0 < n0 ∧ -n0 < l ∧ l < n0 ∧ n0.natAbs < 2 ^ 60 ∧ ns.length ≤ 50 ∧ 
  ∀ (g : Int) (M : Addr) (H' : Hp), 0 < g → (∀ n ∈ stepL n0 l (n0 :: ns) (n0 :: (ns ++ [l])).reverse, g ∣ n) → Same H H' → H' M = some (.lst (((stepL n0 l (n0 :: ns) (n0 :: (ns ++ [l])).reverse).map (· / g)).map V.int)) → Q (.ref M) H'
theorem stepL_take (f l : Int) (xs ys : List Int) (i : Nat) (x y : Int) (hx : xs[i]? = some x) (hy : ys[i]? = some y) : stepL f l (xs.take (i + 1)) (ys.take (i + 1)) = stepL f l (xs.take i) (ys.take i) ++ [f * x - l * y] := by
  unfold stepL
  have lx := (List.getElem?_eq_some_iff.mp hx).1
  have ly := (List.getElem?_eq_some_iff.mp hy).1
  rw [List.take_succ, List.take_succ, hx, hy, Option.toList_some, Option.toList_some, List.zipWith_append (by rw [List.length_take, List.length_take]; omega)]
  rfl
theorem cut_most (xs : List V) (v : V) : cutV (xs ++ [v]) none (some (-1)) = xs := by
  unfold cutV
  have e1 : HT.sIx (xs ++ [v]).length 0 none = 0 := rfl
  have e2 : HT.sIx (xs ++ [v]).length (xs ++ [v]).length (some (-1)) = xs.length := by
    unfold HT.sIx
    rw [List.length_append]
    simp only [List.length_cons, List.length_nil]
    split <;> omega
  rw [e1, e2, List.drop_zero, Nat.sub_zero]
  exact List.take_left' rfl
/-- what the numbers of a pair's bottom come to -/
def wordB (b : Bool) : Str := if b = true then "in" else "out"
def spLad (K : PySem.W.Frag) : Sp := fun vs H Q _ => ∃ (a : Addr) (n0 n1 n2 S b c : Int), vs = [.ref a] ∧ H a = some (.lst [.int n0, .int n1, .int n2]) ∧ 0 < n0 ∧ n1 * S = b * n0 ∧ n2 * S = c * n0 ∧ 1 ≤ S ∧ n0.natAbs < 2 ^ 30 ∧ n1.natAbs < 2 ^ 60 ∧ n2.natAbs < 2 ^ 60 ∧
  ∀ (T : Addr) (rest : List V) (H' : Hp), Same H H' → H' T = some (.tup (.str (wordB (stillB S b c)) :: rest)) → Q (.ref T) H'
theorem lad_short {g n0 n1 n2 m0 m1 m2 S b c : Int} (g0 : 0 < g) (e0 : n0 = g * m0) (e1 : n1 = g * m1) (e2 : n2 = g * m2) (n00 : 0 < n0) (nb : n0.natAbs < 2 ^ 30) (r1 : n1 * S = b * n0) (r2 : n2 * S = c * n0) : 0 < m0 ∧ m0.natAbs < 2 ^ 30 ∧ m1 * S = b * m0 ∧ m2 * S = c * m0 := by
  have m00 : 0 < m0 := by
    refine Int.lt_of_mul_lt_mul_left (a := g) ?_ (by omega)
    rw [Int.mul_zero, ← e0]
    exact n00
  have le : m0 ≤ n0 := by
    rw [e0]
    have := Int.mul_le_mul_of_nonneg_right (show 1 ≤ g by omega) (show 0 ≤ m0 by omega)
    rw [Int.one_mul] at this
    exact this
  refine ⟨m00, by omega, ?_, ?_⟩
  · refine Int.eq_of_mul_eq_mul_left (a := g) (by omega) ?_
    have : g * (m1 * S) = n1 * S := by rw [e1, Int.mul_assoc]
    rw [this, r1, e0]
    grind
  · refine Int.eq_of_mul_eq_mul_left (a := g) (by omega) ?_
    have : g * (m2 * S) = n2 * S := by rw [e2, Int.mul_assoc]
    rw [this, r2, e0]
    grind
/-- which of two is less, both times one above 0 -/
theorem abs_lt_iff {x y p q k r : Int} (hk : 0 < k) (hr : 0 < r) (e1 : x * k = p * r) (e2 : y * k = q * r) : absI x < y ↔ absI p < q := by
  have f : ∀ u v : Int, u * k = v * r → absI u * k = absI v * r := fun u v e => by
    unfold absI
    by_cases hu : u < 0
    · have hv : v < 0 := by
        have h1 : u * k < 0 := Int.mul_neg_of_neg_of_pos hu hk
        rw [e] at h1
        refine Int.lt_of_mul_lt_mul_right (a := r) ?_ (by omega)
        rw [Int.zero_mul]
        exact h1
      rw [if_pos hu, if_pos hv, Int.neg_mul, Int.neg_mul, e]
    · have hv : ¬ v < 0 := fun h => by
        have h1 : v * r < 0 := Int.mul_neg_of_neg_of_pos h hr
        rw [← e] at h1
        have h2 : 0 ≤ u * k := Int.mul_nonneg (by omega) (by omega)
        omega
      rw [if_neg hu, if_neg hv, e]
  have g := f x p e1
  constructor
  · intro h
    refine Int.lt_of_mul_lt_mul_right (a := r) ?_ (by omega)
    rw [← g, ← e2]
    exact Int.mul_lt_mul_of_pos_right h hk
  · intro h
    refine Int.lt_of_mul_lt_mul_right (a := k) ?_ (by omega)
    rw [g, e2]
    exact Int.mul_lt_mul_of_pos_right h hr
theorem lad_c {m0 m2 S c : Int} (S1 : 1 ≤ S) (m00 : 0 < m0) (r : m2 * S = c * m0) : absI m2 < m0 ↔ absI c < S := abs_lt_iff (k := S) (r := m0) (by omega) m00 r (Int.mul_comm _ _)
theorem lad_step {m0 m1 m2 S b c g : Int} (m00 : 0 < m0) (mb : m0.natAbs < 2 ^ 30) (l0 : -m0 < m2) (l1 : m2 < m0) (r1 : m1 * S = b * m0) (r2 : m2 * S = c * m0) (S1 : 1 ≤ S) (g0 : 0 < g) (d1 : g ∣ m0 * m0 - m2 * m2) (d2 : g ∣ m0 * m1 - m2 * m1) :
    0 < (m0 * m0 - m2 * m2) / g ∧ ((m0 * m0 - m2 * m2) / g).natAbs < 2 ^ 60 ∧ absI c < S ∧ (absI ((m0 * m1 - m2 * m1) / g) < (m0 * m0 - m2 * m2) / g ↔ absI b < S + c) := by
  obtain ⟨k0, e0⟩ := d1
  obtain ⟨k1, e1⟩ := d2
  rw [e0, e1, Int.mul_ediv_cancel_left _ (by omega), Int.mul_ediv_cancel_left _ (by omega)]
  have hf : m0 * m0 - m2 * m2 = (m0 - m2) * (m0 + m2) := by grind
  have pos : 0 < m0 * m0 - m2 * m2 := by
    rw [hf]
    exact Int.mul_pos (by omega) (by omega)
  have k00 : 0 < k0 := by
    refine Int.lt_of_mul_lt_mul_left (a := g) ?_ (by omega)
    rw [Int.mul_zero, ← e0]
    exact pos
  have kle : k0 ≤ m0 * m0 := by
    have h1 : k0 ≤ g * k0 := by
      have := Int.mul_le_mul_of_nonneg_right (show 1 ≤ g by omega) (show 0 ≤ k0 by omega)
      rw [Int.one_mul] at this
      exact this
    have h2 : 0 ≤ m2 * m2 := by
      by_cases c : 0 ≤ m2
      · exact Int.mul_nonneg c c
      · rw [← Int.neg_mul_neg]
        exact Int.mul_nonneg (by omega) (by omega)
    omega
  have mm : (m0 * m0).natAbs < 2 ^ 30 * 2 ^ 30 := by
    rw [Int.natAbs_mul]
    exact Nat.mul_lt_mul'' mb mb
  have h0 : (0 : Int) ≤ m0 * m0 := Int.mul_nonneg (by omega) (by omega)
  refine ⟨k00, Nat.lt_of_lt_of_le (show k0.natAbs < 2 ^ 30 * 2 ^ 30 by omega) (by decide), (lad_c S1 m00 r2).mp (by unfold absI; split <;> omega), ?_⟩
  -- k1 over k0 is m1 over m0 + m2, and that is b over S + c
  refine abs_lt_iff (k := g * S) (r := m0 * (m0 - m2)) (Int.mul_pos g0 (by omega)) (Int.mul_pos m00 (by omega)) ?_ ?_
  · have h1 : k1 * (g * S) = (g * k1) * S := by grind
    rw [h1, ← e1]
    have h2 : (m0 * m1 - m2 * m1) * S = (m1 * S) * (m0 - m2) := by grind
    rw [h2, r1]
    grind
  · have h1 : k0 * (g * S) = (g * k0) * S := by grind
    rw [h1, ← e0, hf]
    have h2 : (m0 - m2) * (m0 + m2) * S = (m0 * S + m2 * S) * (m0 - m2) := by grind
    rw [h2, r2]
    grind
theorem lad_out1 {m0 m2 S b c : Int} (S1 : 1 ≤ S) (m00 : 0 < m0) (r : m2 * S = c * m0) (h : absI m2 ≥ m0) : stillB S b c = false := by
  unfold stillB
  have : ¬ absI c < S := fun z => by
    have := (lad_c S1 m00 r).mpr z
    omega
  rw [decide_eq_false this, Bool.false_and]

def spLadder : Sp := fun vs H Q _ => ∃ (a : Addr) (S b c : Int), vs = [.ref a] ∧ B3 H a S b c ∧ ∀ (T : Addr) (rest : List V) (H' : Hp), Same H H' → H' T = some (.tup (.str (wordB (stillB S b c)) :: rest)) → Q (.ref T) H'
section
variable {P : Program} {w : World} {K : PySem.W.Frag} {mg : Str → Option Value} {base : Heap}
theorem sc_is_fractions : FnScope ["thing", "one"] ["thing"] (defScope s_is_fractions) := ⟨rfl, rfl, rfl, by decide +kernel, rfl, by decide +kernel, by decide +kernel⟩
theorem ok_is_fractions {f : Addr} {fd : FuncData} (F : Fun K "is_fractions" "is_fractions" s_is_fractions f fd) (z : Zs mg) (c_is_fraction : Cal P w K mg base 2 "is_fraction" ["thing"] spIsFrac) : FnOk P w K mg base CX0 3 f fd ["thing"] spIsFrs := by
  refine F.ok sc_is_fractions (fun vs H Q E h => ?_) (fun cdv A outer s H vs Q E hr h => ?_)
  · obtain ⟨a, ws, ps, rfl, _⟩ := h
    rfl
  · obtain ⟨a, ws, ps, rfl, ha, hp0, hlow, hl, q⟩ := h
    refine ⟨_, (pss_one (ps_ret (pe_and (pe_callB call_isi (by rfl) z.isinstance (by decide +kernel) (pa_cons (pv 0) (pa_cons (pe_bltn (v := .ty "list") (by rfl) z.list (by decide +kernel) rfl) pa_nil))) (pe_one (pe_callB (cr_all rfl) (by rfl) z.all (by decide +kernel) (pa_cons (pe_lc (own := [("one", 1)]) (g := gName 1) (tt := tYes) (te := (tCall spIsFrac [] E0 (tCons (tVar 1) tNil))) (by rfl) sc_is_fractions.nd (pi_list (pv 0)) (blkOk_by (own := [("one", 1)]) (N := ["thing", "one"]) (sc := defScope s_is_fractions) (by decide +kernel)) (fun _ _ _ _ _ => by exact (pg_name (i := 1) sc_is_fractions.nd rfl (.inl rfl))) (fun _ _ _ _ _ => by exact pts_nil) (fun _ _ _ _ _ => by exact (pe_cal c_is_fraction hr (pa_cons (pv 1) pa_nil)))) pa_nil)))))), ?_⟩
    have hlen := hp0.len
    refine ⟨_, rfl, _, .ty "list", _, _, true, rfl, .ty _, .base (.lst ha), kit_ty (by decide +kernel), _, rfl, iteT ⟨_, rfl, a, rfl, ⟨_, SqL.of ha⟩, fun D hD => lc_list (K := K) (a := a) (xs := ws) (fun i H' => Same H H' ∧ H' D = some (.lst (List.replicate i (V.bl true)))) ⟨same_new hD, upd_same⟩ (fun i H' _ hP => SqL.of (hP.1 _ _ ha)) (fun i x H' hx hP => ?_) (fun H' hP => ?_)⟩⟩
    · obtain ⟨s1, hacc⟩ := hP
      obtain ⟨p, t, b, rfl, hi, hm, hp⟩ := PrL_get hp0 hx
      obtain ⟨b1, g1⟩ := hlow _ hm
      have li := (List.getElem?_eq_some_iff.mp hx).1
      refine ⟨rfl, _, rfl, p, t, b, rfl, s1 _ _ hp, b1, ?_⟩
      rw [decide_eq_true g1]
      refine ⟨_, hacc, ?_, fun b o e => ?_, ?_⟩
      · rw [List.length_replicate]
        exact small1000 (by omega)
      · rw [upd_ne (ne_of_none e hD)]
        exact s1 _ _ e
      · rw [upd_same, rep_more]
    · obtain ⟨s1, hacc⟩ := hP
      refine ⟨D, List.replicate _ true, rfl, SqL.of (by rw [rep_map]; exact hacc), ?_⟩
      rw [rep_all]
      exact q _ s1
theorem sc_common_bottom : FnScope ["pairs", "common", "pair"] ["pairs"] (defScope s_common_bottom) := ⟨rfl, rfl, rfl, by decide +kernel, rfl, by decide +kernel, by decide +kernel⟩
theorem ok_common_bottom {f : Addr} {fd : FuncData} (F : Fun K "common_bottom" "common_bottom" s_common_bottom f fd) (z : Zs mg) (c_shared_divisor : Cal P w K mg base 1 "shared_divisor" ["top", "bottom"] spShared) : FnOk P w K mg base CX0 2 f fd ["pairs"] spCom := by
  refine F.ok sc_common_bottom (fun vs H Q E h => ?_) (fun cdv A outer s H vs Q E hr h => ?_)
  · obtain ⟨a, ws, ps, D, rfl, _⟩ := h
    rfl
  · obtain ⟨a, ws, ps, D, rfl, ha, hp0, hB, q⟩ := h
    refine ⟨_, (pss_cons (ps_set (i := 1) sc_common_bottom.nd rfl (.inl rfl) pe_int)
      (pss_cons (ps_for PassesOwn.never rfl (pi_list (pv 0)) (pg_name (i := 2) sc_common_bottom.nd rfl (.inl rfl)) (pss_one (ps_if (pt_truth (pe_op op_mod (pv 1) (pe_ix ix_tup (pv 2) pe_int (fun _ _ => rfl))) (by intro _; rfl)) (pss_one (ps_set (i := 1) sc_common_bottom.nd rfl (.inl rfl) (pe_op op_mulW (pe_op op_fdivW (pv 1) (pe_cal c_shared_divisor hr (pa_cons (pv 1) (pa_cons (pe_ix ix_tup (pv 2) pe_int (fun _ _ => rfl)) pa_nil)))) (pe_ix ix_tup (pv 2) pe_int (fun _ _ => rfl))))) pss_nil)))
      (pss_one (ps_ret (pv 1))))), ?_⟩
    have hlen := hp0.len
    refine ⟨_, rfl, a, rfl, ⟨_, SqL.of ha⟩, for_list (K := K) (a := a) (xs := ws) (fun i σ H' => H' = H ∧ ∃ y : Option V, σ = [some (.ref a), some (.int (com ((ps.take i).map (·.2)))), y]) ⟨rfl, none, rfl⟩ (fun i σ H' _ hP => hP.1 ▸ SqL.of ha) (fun i x σ H' hx hP => ?_) (fun σ H' hP => ?_)⟩
    · obtain ⟨rfl, y, rfl⟩ := hP
      obtain ⟨p, t, b, rfl, hi, hm, hp⟩ := PrL_get hp0 hx
      obtain ⟨b0, bD, _⟩ := hB.2.2 _ hm
      obtain ⟨c0, cD, _⟩ := (hB.take i).com
      have b1 := hB.lt b0 bD
      have c1 := hB.lt c0 cD
      have e : com ((ps.take (i + 1)).map (·.2)) = lcmI (com ((ps.take i).map (·.2))) b := by
        rw [List.take_succ, hi, Option.toList_some, List.map_append]
        unfold com
        rw [List.foldl_append]
        rfl
      generalize hc : com ((ps.take i).map (·.2)) = c at *
      refine ⟨_, rfl, _, rfl, p, _, 1, .int b, rfl, rfl, SqT.of hp, a1, _, _, rfl, rfl, (by show 0 < b; exact b0), _, rfl, ?_⟩
      by_cases c2 : c % b = 0
      · rw [c2]
        refine iteF ⟨rfl, some (.ref p), ?_⟩
        rw [e]
        unfold lcmI
        rw [if_pos c2]
        rfl
      · have ne : (c % b != 0) = true := by
          rw [bne_iff_ne]
          exact c2
        rw [ne]
        have g0 := gI_pos (t := c) (b := b) (by omega)
        have g1 : (gI c b).natAbs < 2 ^ 2000 := Nat.lt_of_le_of_lt (gI_le (by omega)) b1
        have q1 : (c / gI c b).natAbs < 2 ^ 2000 := by
          have h1 : 0 ≤ c / gI c b := Int.ediv_nonneg (by omega) (by omega)
          have h2 : c / gI c b ≤ c := Int.ediv_le_self _ (by omega)
          omega
        refine iteT ⟨_, rfl, _, rfl, _, rfl, p, _, 1, .int b, rfl, rfl, SqT.of hp, a1, c, b, rfl, by omega, _, _, rfl, rfl, wide_div g0 g1 (by decide) (by decide), _, rfl, p, _, 1, .int b, rfl, rfl, SqT.of hp, a1, _, _, rfl, rfl, wide_mul q1 b1 (by decide) (by decide) (by decide), rfl, some (.ref p), ?_⟩
        rw [e]
        unfold lcmI
        rw [if_neg c2]
        rfl
    · obtain ⟨rfl, y, rfl⟩ := hP
      rw [hlen, List.take_length]
      exact ⟨_, rfl, q⟩
theorem sc_cleared : FnScope ["pairs", "common", "top", "bottom"] ["pairs"] (defScope s_cleared) := ⟨rfl, rfl, rfl, by decide +kernel, rfl, by decide +kernel, by decide +kernel⟩
theorem ok_cleared {f : Addr} {fd : FuncData} (F : Fun K "cleared" "cleared" s_cleared f fd) (c_common_bottom : Cal P w K mg base 2 "common_bottom" ["pairs"] spCom) : FnOk P w K mg base CX0 3 f fd ["pairs"] spCleared := by
  refine F.ok sc_cleared (fun vs H Q E h => ?_) (fun cdv A outer s H vs Q E hr h => ?_)
  · obtain ⟨a, ws, ps, D, rfl, _⟩ := h
    rfl
  · obtain ⟨a, ws, ps, D, rfl, ha, hp0, hB, hl, q⟩ := h
    refine ⟨_, (pss_cons (ps_set (i := 1) sc_cleared.nd rfl (.inr rfl) (pe_cal c_common_bottom hr (pa_cons (pv 0) pa_nil)))
      (pss_one (ps_ret (pe_tup (pa_cons (pe_lc (own := [("top", 2), ("bottom", 3)]) (g := gTup K 2 (gCons (gName 2) (gCons (gName 3) gNil))) (tt := tYes) (te := (tOp (rI CMulW fun i j => V.int (i * j)) (tVar 2) (tOp (rI CDivW fun i j => V.int (i / j)) (tVar 1) (tVar 3)))) (by rfl) sc_cleared.nd (pi_list (pv 0)) (blkOk_by (own := [("top", 2), ("bottom", 3)]) (N := ["pairs", "common", "top", "bottom"]) (sc := defScope s_cleared) (by decide +kernel)) (fun _ _ _ _ _ => by exact (pg_tup (by rfl) (pgs_cons (pg_name (i := 2) sc_cleared.nd rfl (.inl rfl)) (pgs_cons (pg_name (i := 3) sc_cleared.nd rfl (.inl rfl)) pgs_nil)))) (fun _ _ _ _ _ => by exact pts_nil) (fun _ _ _ _ _ => by exact (pe_op op_mulW (pv 2) (pe_op op_fdivW (pv 1) (pv 3))))) (pa_cons (pv 1) pa_nil)))))), ?_⟩
    have hlen := hp0.len
    obtain ⟨c0, cD, cdv⟩ := hB.com
    have c1 := hB.lt c0 cD
    refine ⟨_, rfl, a, ws, ps, D, rfl, ha, hp0, hB, ?_⟩
    generalize com (ps.map (·.2)) = c at *
    refine ⟨_, rfl, a, rfl, ⟨_, SqL.of ha⟩, fun l hD => lc_list (K := K) (a := a) (xs := ws) (fun i H' => Same H H' ∧ H' l = some (.lst ((tops c (ps.take i)).map V.int))) ⟨same_new hD, upd_same⟩ (fun i H' _ hP => SqL.of (hP.1 _ _ ha)) (fun i x H' hx hP => ?_) (fun H' hP => ?_)⟩
    · obtain ⟨s1, hacc⟩ := hP
      obtain ⟨p, t, b, rfl, hi, hm, hp⟩ := PrL_get hp0 hx
      obtain ⟨b0, bD, t1⟩ := hB.2.2 _ hm
      have b1 := hB.lt b0 bD
      have li := (List.getElem?_eq_some_iff.mp hi).1
      have q1 : (c / b).natAbs < 2 ^ 2000 := by
        have h1 : 0 ≤ c / b := Int.ediv_nonneg (by omega) (by omega)
        have h2 : c / b ≤ c := Int.ediv_le_self _ (by omega)
        omega
      refine ⟨p, [.int t, .int b], rfl, SqT.of (s1 _ _ hp), rfl, _, _, rfl, _, _, rfl, rfl, rfl, ?_⟩
      refine ⟨_, rfl, _, rfl, _, rfl, _, _, rfl, rfl, wide_div b0 b1 (by decide) (by decide), _, _, rfl, rfl, wide_mul t1 q1 (by decide) (by decide) (by decide), _, hacc, ?_, fun b' o e => ?_, ?_⟩
      · unfold tops
        rw [List.length_map, List.length_map, List.length_take]
        exact small1000 (by omega)
      · rw [upd_ne (ne_of_none e hD)]
        exact s1 _ _ e
      · rw [upd_same, List.take_succ, hi, Option.toList_some]
        unfold tops
        rw [List.map_append, List.map_append]
        rfl
    · obtain ⟨s1, hacc⟩ := hP
      rw [hlen, List.take_length] at hacc
      refine ⟨_, rfl, (by show 2 ≤ sizeLine; decide), fun T hT => ?_⟩
      exact q T l _ (s1.trans (same_new hT)) upd_same (same_new hT _ _ hacc)
theorem sc_is_bottom : FnScope ["thing"] ["thing"] (defScope s_is_bottom) := ⟨rfl, rfl, rfl, by decide +kernel, rfl, by decide +kernel, by decide +kernel⟩
theorem ok_is_bottom {f : Addr} {fd : FuncData} {aN : Addr} (g_NOUGHT : mg "NOUGHT" = some (.ref aN)) (tN : ∀ H, SqT K H aN [.int 0, .int 1]) (F : Fun K "is_bottom" "is_bottom" s_is_bottom f fd) (z : Zs mg) (c_is_fractions : Cal P w K mg base 3 "is_fractions" ["thing"] spIsFrs) : FnOk P w K mg base CX0 4 f fd ["thing"] spBot := by
  refine F.ok sc_is_bottom (fun vs H Q E h => ?_) (fun cdv A outer s H vs Q E hr h => ?_)
  · obtain ⟨a, q0, ws, ps, rfl, _⟩ := h
    rfl
  · obtain ⟨a, q0, ws, ps, rfl, ha, h0, hp0, hlow, hl, q⟩ := h
    refine ⟨_, (pss_one (ps_ret (pe_and (pe_cal c_is_fractions hr (pa_cons (pv 0) pa_nil)) (pe_and (pe_cmpR op_gt (pe_callB call_len_seq (by rfl) z.len PySem.boot_len (pa_cons (pv 0) pa_nil)) pe_int (nomark _)) (pe_one (pe_cmpR (op_neD hr.units) (pe_ix ix_list (pv 0) pe_int (fun _ _ => rfl)) (pe_glob (v := .ref aN) (by rfl) g_NOUGHT rfl) (nomark _))))))), ?_⟩
    refine ⟨_, rfl, a, _, ps, rfl, ha, hp0, hlow, hl, fun H1 s1 => ⟨_, rfl, iteT ?_⟩⟩
    refine ⟨_, rfl, a, _, rfl, .inl (SqL.of (s1 _ _ ha)), _, _, rfl, rfl, _, rfl, ?_⟩
    rw [decide_eq_true (show (((V.ref q0 :: ws).length : Nat) : Int) > 0 by rw [List.length_cons]; omega)]
    refine iteT ⟨_, rfl, a, _, 0, .ref q0, rfl, rfl, SqL.of (s1 _ _ ha), a0, .tuple [.int 1, .int 1], .tuple [.int 0, .int 1], .tup (SqT.of (s1 _ _ h0)) (.cons (.int _) (.cons (.int _) .nil)), .tup (tN _) (.cons (.int _) (.cons (.int _) .nil)), rfl, rfl, ?_⟩
    exact q _ s1
theorem sc_check_bottom : FnScope ["thing"] ["thing"] (defScope s_check_bottom) := ⟨rfl, rfl, rfl, by decide +kernel, rfl, by decide +kernel, by decide +kernel⟩
theorem ok_check_bottom {f : Addr} {fd : FuncData} (F : Fun K "check_bottom" "check_bottom" s_check_bottom f fd) (c_is_bottom : Cal P w K mg base 4 "is_bottom" ["thing"] spBot) : FnOk P w K mg base CX0 5 f fd ["thing"] spChk := by
  refine F.ok sc_check_bottom (fun vs H Q E h => ?_) (fun cdv A outer s H vs Q E hr h => ?_)
  · obtain ⟨a, q0, ws, ps, rfl, _⟩ := h
    rfl
  · obtain ⟨a, q0, ws, ps, rfl, ha, h0, hp0, hlow, hl, q⟩ := h
    refine ⟨_, (pss_one (ps_if (pt_not (pt_val (pe_cal c_is_bottom hr (pa_cons (pv 0) pa_nil)))) (pss_one ps_never) pss_nil)), ?_⟩
    exact ⟨_, rfl, a, q0, ws, ps, rfl, ha, h0, hp0, hlow, hl, fun H1 s1 => ⟨_, rfl, iteF (q _ s1)⟩⟩
theorem sc_is_long : FnScope ["common"] ["common"] (defScope s_is_long) := ⟨rfl, rfl, rfl, by decide +kernel, rfl, by decide +kernel, by decide +kernel⟩
theorem ok_is_long {f : Addr} {fd : FuncData} {k : Nat} (tk : Tok) (g_LONGEST_COMMON : mg "LONGEST_COMMON" = some (.int 40000 tk)) (F : Fun K "is_long" "is_long" s_is_long f fd) : FnOk P w K mg base CX0 (k + 1) f fd ["common"] spLong := by
  refine F.ok sc_is_long (fun vs H Q E h => ?_) (fun cdv A outer s H vs Q E hr h => ?_)
  · obtain ⟨c, rfl, _⟩ := h
    rfl
  · obtain ⟨c, rfl, hc, q⟩ := h
    refine ⟨_, (pss_one (ps_ret (pe_cmpR op_gt (pe_bits (pv 0)) (pe_glob (v := .int 40000) (by rfl) g_LONGEST_COMMON ⟨_, rfl⟩) (nomark _)))), ?_⟩
    refine ⟨_, rfl, _, rfl, _, _, rfl, rfl, ?_⟩
    have := PyProof.Rows.intBits_le (a := c) (k := 1000) hc
    show Q (.bl (decide (((Builtin.Int.intBits c : Nat) : Int) > 40000))) H
    rw [decide_eq_false (by omega)]
    exact q
theorem sc_shortened : FnScope ["numbers", "shared", "number"] ["numbers"] (defScope s_shortened) := ⟨rfl, rfl, rfl, by decide +kernel, rfl, by decide +kernel, by decide +kernel⟩
theorem ok_shortened {f : Addr} {fd : FuncData} (F : Fun K "shortened" "shortened" s_shortened f fd) (z : Zs mg) (c_shared_divisor : Cal P w K mg base 1 "shared_divisor" ["top", "bottom"] spShared) : FnOk P w K mg base CX0 2 f fd ["numbers"] spShort := by
  refine F.ok sc_shortened (fun vs H Q E h => ?_) (fun cdv A outer s H vs Q E hr h => ?_)
  · obtain ⟨a, n0, ns, rfl, _⟩ := h
    rfl
  · obtain ⟨a, n0, ns, rfl, ha, n00, nb, hl, q⟩ := h
    refine ⟨_, (pss_cons (ps_set (i := 1) sc_shortened.nd rfl (.inr rfl) (pe_callB call_abs (by rfl) z.abs (by decide +kernel) (pa_cons (pe_ix ix_list (pv 0) pe_int (fun _ _ => rfl)) pa_nil)))
      (pss_cons (ps_for PassesOwn.never rfl (pi_list (pv 0)) (pg_name (i := 2) sc_shortened.nd rfl (.inl rfl)) (pss_one (ps_set (i := 1) sc_shortened.nd rfl (.inr rfl) (pe_cal c_shared_divisor hr (pa_cons (pv 2) (pa_cons (pv 1) pa_nil))))))
      (pss_cons (ps_if (pt_cmpR op_lt (pe_ix ix_list (pv 0) pe_int (fun _ _ => rfl)) pe_int (nomark _)) (pss_one (ps_set (i := 1) sc_shortened.nd rfl (.inr rfl) (pe_un un_neg (pv 1)))) pss_nil)
      (pss_one (ps_ret (pe_lc (own := [("number", 2)]) (g := gName 2) (tt := tYes) (te := (tOp (rI CDivW fun i j => V.int (i / j)) (tVar 2) (tVar 1))) (by rfl) sc_shortened.nd (pi_list (pv 0)) (blkOk_by (own := [("number", 2)]) (N := ["numbers", "shared", "number"]) (sc := defScope s_shortened) (by decide +kernel)) (fun _ _ _ _ _ => by exact (pg_name (i := 2) sc_shortened.nd rfl (.inl rfl))) (fun _ _ _ _ _ => by exact pts_nil) (fun _ _ _ _ _ => by exact (pe_op op_fdivW (pv 2) (pv 1))))))))), ?_⟩
    refine ⟨_, rfl, a, _, 0, .int n0, rfl, rfl, SqL.of ha, a0, _, rfl, ?_⟩
    refine ⟨_, rfl, a, rfl, ⟨_, SqL.of ha⟩, for_list (K := K) (a := a) (xs := (n0 :: ns).map V.int) (fun i σ H' => H' = H ∧ ∃ (g : Int) (y2 : Option V), σ = [some (.ref a), some (.int g), y2] ∧ 0 < g ∧ g ∣ n0 ∧ ∀ n ∈ (n0 :: ns).take i, g ∣ n) ⟨rfl, n0, none, ?_, n00, Int.dvd_refl _, fun n hn => absurd hn (by simp)⟩ (fun i σ H' _ hP => hP.1 ▸ SqL.of ha) (fun i x σ H' hx hP => ?_) (fun σ H' hP => ?_)⟩
    · show [some (V.ref a), some (V.int (if n0 < 0 then -n0 else n0)), none] = _
      rw [if_neg (by omega)]
    · obtain ⟨rfl, g, y2, rfl, g0, g1, g2⟩ := hP
      rw [List.getElem?_map] at hx
      obtain ⟨n, hn, rfl⟩ := Option.map_eq_some_iff.mp hx
      have p0 := gI_pos (t := n) (b := g) (by omega)
      have d1 : gI n g ∣ n := Int.gcd_dvd_left ..
      have d2 : gI n g ∣ g := Int.gcd_dvd_right ..
      refine ⟨_, rfl, _, rfl, n, g, rfl, by omega, rfl, gI n g, _, rfl, p0, Int.dvd_trans d2 g1, fun m hm => ?_⟩
      rw [List.take_succ, hn, Option.toList_some] at hm
      rcases List.mem_append.mp hm with hm | hm
      · exact Int.dvd_trans d2 (g2 m hm)
      · rw [List.mem_singleton.mp hm]
        exact d1
    · obtain ⟨rfl, g, y2, rfl, g0, g1, g2⟩ := hP
      rw [List.length_map, List.take_length] at g2
      have gb : g.natAbs < 2 ^ 200 := by
        have h1 : g.natAbs ∣ n0.natAbs := Int.natAbs_dvd_natAbs.mpr g1
        exact Nat.lt_of_le_of_lt (Nat.le_of_dvd (by omega) h1) nb
      refine ⟨_, rfl, a, _, 0, .int n0, rfl, rfl, SqL.of ha, a0, _, _, rfl, rfl, _, rfl, ite2 (fun c => absurd (toB c) (by omega)) (fun _ => ?_)⟩
      refine ⟨_, rfl, a, rfl, ⟨_, SqL.of ha⟩, fun D hD => lc_list (K := K) (a := a) (xs := (n0 :: ns).map V.int) (fun i G => Same H' G ∧ G D = some (.lst ((((n0 :: ns).take i).map (· / g)).map V.int))) ⟨same_new hD, upd_same⟩ (fun i G _ hP => SqL.of (hP.1 _ _ ha)) (fun i x G hx hP => ?_) (fun G hP => ?_)⟩
      · obtain ⟨sG, hacc⟩ := hP
        rw [List.getElem?_map] at hx
        obtain ⟨n, hn, rfl⟩ := Option.map_eq_some_iff.mp hx
        refine ⟨rfl, _, rfl, _, rfl, _, _, rfl, rfl, wide_div g0 (up gb (show 200 ≤ 4000 by decide)) (by decide) (by decide), _, hacc, ?_, fun b o e => ?_, ?_⟩
        · rw [List.length_map, List.length_map, List.length_take, List.length_cons]
          exact small1000 (by omega)
        · rw [upd_ne (ne_of_none e hD)]
          exact sG _ _ e
        · rw [upd_same, List.take_succ, hn, Option.toList_some, List.map_append, List.map_append]
          rfl
      · obtain ⟨sG, hacc⟩ := hP
        rw [List.length_map, List.take_length] at hacc
        exact q g D G g0 g2 sG hacc
theorem sc_numbers_stepped_down : FnScope ["numbers", "first", "last", "one", "other"] ["numbers"] (defScope s_numbers_stepped_down) := ⟨rfl, rfl, rfl, by decide +kernel, rfl, by decide +kernel, by decide +kernel⟩
theorem ok_numbers_stepped_down {f : Addr} {fd : FuncData} (F : Fun K "numbers_stepped_down" "numbers_stepped_down" s_numbers_stepped_down f fd) (z : Zs mg) (c_shortened : Cal P w K mg base 2 "shortened" ["numbers"] spShort) : FnOk P w K mg base CX0 3 f fd ["numbers"] (spStep K) := by
  refine F.ok sc_numbers_stepped_down (fun vs H Q E h => ?_) (fun cdv A outer s H vs Q E hr h => ?_)
  · obtain ⟨a, n0, ns, l, rfl, _⟩ := h
    rfl
  · obtain ⟨a, n0, ns, l, rfl, ha, n00, l0, l1, nb, hl, q⟩ := h
    refine ⟨_, (pss_cons (ps_set (i := 1) sc_numbers_stepped_down.nd rfl (.inr rfl) (pe_ix ix_list (pv 0) pe_int (fun _ _ => rfl)))
      (pss_cons (ps_set (i := 2) sc_numbers_stepped_down.nd rfl (.inr rfl) (pe_ix ix_list (pv 0) (pe_un un_neg pe_int) (fun _ _ => rfl)))
      (pss_one (ps_ret (pe_cal c_shortened hr (pa_cons (pe_lc (own := [("one", 3), ("other", 4)]) (g := gTup K 2 (gCons (gName 3) (gCons (gName 4) gNil))) (tt := tYes) (te := (tOp (rI0 fun i j => V.int (i - j)) (tOp (rI CMul fun i j => V.int (i * j)) (tVar 1) (tVar 3)) (tOp (rI CMul fun i j => V.int (i * j)) (tVar 2) (tVar 4)))) (by rfl) sc_numbers_stepped_down.nd (RZ.pi_zipA (by rfl) z.zip (pa_cons (pe_slice sl_list (pv 0) po_none (po_some (pe_un un_neg pe_int))) (pa_cons (pe_revL (pv 0)) pa_nil))) (blkOk_by (own := [("one", 3), ("other", 4)]) (N := ["numbers", "first", "last", "one", "other"]) (sc := defScope s_numbers_stepped_down) (by decide +kernel)) (fun _ _ _ _ _ => by exact (pg_tup (by rfl) (pgs_cons (pg_name (i := 3) sc_numbers_stepped_down.nd rfl (.inl rfl)) (pgs_cons (pg_name (i := 4) sc_numbers_stepped_down.nd rfl (.inl rfl)) pgs_nil)))) (fun _ _ _ _ _ => by exact pts_nil) (fun _ _ _ _ _ => by exact (pe_op op_sub (pe_op op_mul (pv 1) (pv 3)) (pe_op op_mul (pv 2) (pv 4))))) pa_nil)))))), ?_⟩
    have hlast : atI ((n0 :: (ns ++ [l])).map V.int) (-1) = some (.int l) := by
      rw [← List.cons_append, List.map_append]
      exact atI_last _ _
    refine ⟨_, rfl, a, _, 0, .int n0, rfl, rfl, SqL.of ha, a0, ?_⟩
    refine ⟨_, rfl, _, rfl, a, _, _, .int l, rfl, rfl, SqL.of ha, hlast, ?_⟩
    refine ⟨_, rfl, _, rfl, _, rfl, a, _, rfl, SqL.of ha, fun C hC => ?_⟩
    have ec : cutV ((n0 :: (ns ++ [l])).map V.int) none (some (-1)) = (n0 :: ns).map V.int := by
      rw [← List.cons_append, List.map_append]
      exact cut_most _ _
    rw [ec]
    have sC := same_new (o := .lst ((n0 :: ns).map V.int)) hC
    refine ⟨_, rfl, a, _, rfl, SqL.of (sC _ _ ha), fun R hR => ?_⟩
    rw [← List.map_reverse]
    have er : (n0 :: (ns ++ [l])).reverse = l :: (n0 :: ns).reverse := by simp
    have sR := sC.trans (same_new (o := .lst ((n0 :: (ns ++ [l])).reverse.map V.int)) hR)
    have hC2 := (same_new (o := .lst ((n0 :: (ns ++ [l])).reverse.map V.int)) hR) _ _ (upd_same (a := C) (o := .lst ((n0 :: ns).map V.int)) (H := H))
    refine ⟨C, R, _, _, rfl, .inl ⟨SqL.of hC2, SqL.of upd_same, fun D hD => ?_⟩⟩
    have hR2 : (upd (upd H C (.lst ((n0 :: ns).map V.int))) R (.lst ((n0 :: (ns ++ [l])).reverse.map V.int))) R = some (.lst ((n0 :: (ns ++ [l])).reverse.map V.int)) := upd_same
    generalize upd (upd H C (.lst ((n0 :: ns).map V.int))) R (.lst ((n0 :: (ns ++ [l])).reverse.map V.int)) = HR at sR hC2 hR2 hD ⊢
    refine lc_it (walk_zip (K := K) (a := C) (b := R) (xs := (n0 :: ns).map V.int) (ys := (n0 :: (ns ++ [l])).reverse.map V.int) rfl) (fun i G => Same HR G ∧ G D = some (.lst ((stepL n0 l ((n0 :: ns).take i) ((n0 :: (ns ++ [l])).reverse.take i)).map V.int))) ⟨same_new hD, upd_same⟩ (fun i G _ hP => ⟨SqL.of (hP.1 _ _ hC2), SqL.of (hP.1 _ _ hR2)⟩) (fun i x G G2 hi hP hY => ?_) (fun G hP => ?_)
    · obtain ⟨sG, hacc⟩ := hP
      obtain ⟨Tp, u, v, rfl, nT, rfl, e1, e2⟩ := hY
      replace e1 : ((n0 :: ns).map V.int)[i]? = some u := e1
      replace e2 : ((n0 :: (ns ++ [l])).reverse.map V.int)[i]? = some v := e2
      rw [List.getElem?_map] at e1 e2
      obtain ⟨m, m1, rfl⟩ := Option.map_eq_some_iff.mp e1
      obtain ⟨n, n1, rfl⟩ := Option.map_eq_some_iff.mp e2
      have li := (List.getElem?_eq_some_iff.mp m1).1
      have sN := same_new (o := .tup [.int m, .int n]) nT
      refine ⟨Tp, [.int m, .int n], rfl, SqT.of upd_same, rfl, _, _, rfl, _, _, rfl, rfl, rfl, ?_⟩
      refine ⟨_, rfl, _, rfl, _, _, rfl, rfl, .inl ⟨by omega, by omega⟩, _, rfl, _, rfl, _, _, rfl, rfl, .inl ⟨by omega, by omega⟩, _, _, rfl, rfl, _, sN _ _ hacc, ?_, fun b o e => ?_, ?_⟩
      · unfold stepL
        rw [List.length_map, List.length_zipWith, List.length_take]
        rw [List.length_cons] at li
        exact small1000 (by omega)
      · rw [upd_ne (ne_of_none e hD)]
        exact sN _ _ (sG _ _ e)
      · rw [upd_same, stepL_take n0 l _ _ i m n m1 n1, List.map_append]
        rfl
    · obtain ⟨sG, hacc⟩ := hP
      have e1 : ((n0 :: ns).map V.int).length = (n0 :: ns).length := List.length_map _
      have e2 : ((n0 :: (ns ++ [l])).reverse.map V.int).length = ns.length + 2 := by
        rw [List.length_map, List.length_reverse, List.length_cons, List.length_append]
        rfl
      rw [e1, e2, show min (n0 :: ns).length (ns.length + 2) = (n0 :: ns).length by rw [List.length_cons]; omega, List.take_length] at hacc
      have et : stepL n0 l (n0 :: ns) ((n0 :: (ns ++ [l])).reverse.take (n0 :: ns).length) = stepL n0 l (n0 :: ns) (n0 :: (ns ++ [l])).reverse := by
        unfold stepL
        have zz : List.zipWith (fun o r => n0 * o - l * r) (n0 :: ns) (n0 :: (ns ++ [l])).reverse = List.zipWith (fun o r => n0 * o - l * r) ((n0 :: ns).take (min (n0 :: ns).length (n0 :: (ns ++ [l])).reverse.length)) ((n0 :: (ns ++ [l])).reverse.take (min (n0 :: ns).length (n0 :: (ns ++ [l])).reverse.length)) := List.zipWith_eq_zipWith_take_min
        rw [zz]
        rw [show min (n0 :: ns).length (n0 :: (ns ++ [l])).reverse.length = (n0 :: ns).length by rw [List.length_reverse, List.length_cons, List.length_cons, List.length_append]; show min _ (_ + 1 + 1) = _; omega, List.take_length]
      rw [et] at hacc
      have q' := q
      rw [er] at hacc q'
      have hd : stepL n0 l (n0 :: ns) (l :: (n0 :: ns).reverse) = (n0 * n0 - l * l) :: stepL n0 l ns (n0 :: ns).reverse := rfl
      rw [hd] at hacc q'
      have sq : l * l < n0 * n0 := by
        have e3 : n0 * n0 - l * l = (n0 - l) * (n0 + l) := by grind
        have := Int.mul_pos (show 0 < n0 - l by omega) (show 0 < n0 + l by omega)
        omega
      have sq0 : 0 ≤ l * l := by
        by_cases c : 0 ≤ l
        · exact Int.mul_nonneg c c
        · rw [← Int.neg_mul_neg]
          exact Int.mul_nonneg (by omega) (by omega)
      have bn : (n0 * n0).natAbs ≤ 2 ^ 60 * 2 ^ 60 := by
        rw [Int.natAbs_mul]
        exact Nat.mul_le_mul (by omega) (by omega)
      refine ⟨D, n0 * n0 - l * l, stepL n0 l ns (n0 :: ns).reverse, rfl, hacc, by omega, Nat.lt_of_le_of_lt (show _ ≤ 2 ^ 60 * 2 ^ 60 by omega) (by decide), ?_, fun g M H' g0 gd s' hM => q' g M H' g0 gd (sR.trans (sG.trans s')) hM⟩
      unfold stepL
      rw [List.length_zipWith]
      omega
end
end E1

namespace E1
open PySem PySem.Spec PyProof.Rows L2

theorem lad_out2 {S b c k0 k1 : Int} (h : absI k1 < k0 ↔ absI b < S + c) (hk : absI k1 ≥ k0) : stillB S b c = false := by
  unfold stillB
  have : ¬ absI b < S + c := fun z => by
    have := h.mpr z
    omega
  rw [decide_eq_false this, Bool.and_false]
theorem lad_in {S b c k0 k1 : Int} (hc : absI c < S) (h : absI k1 < k0 ↔ absI b < S + c) (hk : ¬ absI k1 ≥ k0) : stillB S b c = true := by
  unfold stillB
  rw [decide_eq_true hc, decide_eq_true (h.mp (by omega))]
  rfl
section
variable {P : Program} {w : World} {K : PySem.W.Frag} {mg : Str → Option Value} {base : Heap}
theorem sc_ladder_by_numbers : FnScope ["numbers", "rungs", "number"] ["numbers"] (defScope s_ladder_by_numbers) := ⟨rfl, rfl, rfl, by decide +kernel, rfl, by decide +kernel, by decide +kernel⟩
theorem ok_ladder_by_numbers {f : Addr} {fd : FuncData} (F : Fun K "ladder_by_numbers" "ladder_by_numbers" s_ladder_by_numbers f fd) (z : Zs mg) (c_shortened : Cal P w K mg base 2 "shortened" ["numbers"] spShort) (c_numbers_stepped_down : Cal P w K mg base 3 "numbers_stepped_down" ["numbers"] (spStep K)) (c_lowest : Cal P w K mg base 2 "lowest" ["top", "bottom"] spLow) : FnOk P w K mg base CX0 4 f fd ["numbers"] (spLad K) := by
  refine F.ok sc_ladder_by_numbers (fun vs H Q E h => ?_) (fun cdv A outer s H vs Q E hr h => ?_)
  · obtain ⟨a, n0, n1, n2, S, b, c, rfl, _⟩ := h
    rfl
  · obtain ⟨a, n0, n1, n2, S, b, c, rfl, ha, n00, r1, r2, S1, b0, b1, b2, q⟩ := h
    refine ⟨_, (pss_cons (ps_set (i := 0) sc_ladder_by_numbers.nd rfl (.inr rfl) (pe_cal c_shortened hr (pa_cons (pv 0) pa_nil)))
      (pss_cons (ps_set (i := 1) sc_ladder_by_numbers.nd rfl (.inl rfl) (pe_lst pa_nil))
      (pss_cons (ps_while PassesOwn.never (pt_cmpR op_gt (pe_callB call_len_seq (by rfl) z.len PySem.boot_len (pa_cons (pv 0) pa_nil)) pe_int (nomark _)) (pss_cons (ps_if (pt_cmpR op_ge (pe_callB call_abs (by rfl) z.abs (by decide +kernel) (pa_cons (pe_ix ix_list (pv 0) (pe_un un_neg pe_int) (fun _ _ => rfl)) pa_nil)) (pe_ix ix_list (pv 0) pe_int (fun _ _ => rfl)) (nomark _)) (pss_one (ps_ret (pe_tup (pa_cons pe_str (pa_cons (pe_lc (own := [("number", 2)]) (g := gName 2) (tt := tYes) (te := (tCall spLow [] E0 (tCons (tVar 2) (tCons (tOp (rIxL K) (tVar 0) (tC (.int 0))) tNil)))) (by rfl) sc_ladder_by_numbers.nd (pi_list (pv 0)) (blkOk_by (own := [("number", 2)]) (N := ["numbers", "rungs", "number"]) (sc := defScope s_ladder_by_numbers) (by decide +kernel)) (fun _ _ _ _ _ => by exact (pg_name (i := 2) sc_ladder_by_numbers.nd rfl (.inl rfl))) (fun _ _ _ _ _ => by exact pts_nil) (fun _ _ _ _ _ => by exact (pe_cal c_lowest hr (pa_cons (pv 2) (pa_cons (pe_ix ix_list (pv 0) pe_int (fun _ _ => rfl)) pa_nil))))) (pa_cons (pv 1) pa_nil)))))) pss_nil)
      (pss_cons (ps_set (i := 1) sc_ladder_by_numbers.nd rfl (.inl rfl) (pe_lst (pa_cons (pe_cal c_lowest hr (pa_cons (pe_ix ix_list (pv 0) (pe_un un_neg pe_int) (fun _ _ => rfl)) (pa_cons (pe_ix ix_list (pv 0) pe_int (fun _ _ => rfl)) pa_nil))) (StX.pa_star (pv 1) pa_nil))))
      (pss_one (ps_set (i := 0) sc_ladder_by_numbers.nd rfl (.inr rfl) (pe_cal c_numbers_stepped_down hr (pa_cons (pv 0) pa_nil)))))))
      (pss_one (ps_ret (pe_tup (pa_cons pe_str (pa_cons (pv 1) pa_nil)))))))), ?_⟩
    refine ⟨_, rfl, a, n0, [n1, n2], rfl, ha, n00, Nat.lt_of_lt_of_le b0 (by decide), (by show 2 ≤ 100; decide), fun g A0 H0 g0 gd s0 hA0 => ?_⟩
    refine ⟨(by show 0 ≤ sizeLine; decide), fun R0 hR0 => ?_⟩
    dsimp only [gName, tSeq]
    obtain ⟨m0, e0⟩ := gd n0 (by simp)
    obtain ⟨m1, e1⟩ := gd n1 (by simp)
    obtain ⟨m2, e2⟩ := gd n2 (by simp)
    have q0 : n0 / g = m0 := by rw [e0]; exact Int.mul_ediv_cancel_left _ (by omega)
    have q1 : n1 / g = m1 := by rw [e1]; exact Int.mul_ediv_cancel_left _ (by omega)
    have q2 : n2 / g = m2 := by rw [e2]; exact Int.mul_ediv_cancel_left _ (by omega)
    replace hA0 : H0 A0 = some (.lst [.int (n0 / g), .int (n1 / g), .int (n2 / g)]) := hA0
    rw [q0, q1, q2] at hA0
    obtain ⟨m00, mb, mr1, mr2⟩ := lad_short g0 e0 e1 e2 n00 b0 r1 r2
    refine while_by (fun σ H1 => ∃ (A R : Addr) (rs : List V), σ = [some (.ref A), some (.ref R), none] ∧ Same H H1 ∧ H1 R = some (.lst rs) ∧ ((H1 A = some (.lst [.int m0, .int m1, .int m2]) ∧ rs.length ≤ 0) ∨ (∃ k0 k1 : Int, H1 A = some (.lst [.int k0, .int k1]) ∧ rs.length ≤ 1 ∧ 0 < k0 ∧ k0.natAbs < 2 ^ 60 ∧ absI c < S ∧ (absI k1 < k0 ↔ absI b < S + c)) ∨ (∃ x : Int, H1 A = some (.lst [.int x]) ∧ stillB S b c = true)))
      (fun σ H1 => match σ with | [some (.ref A), _, _] => (match H1 A with | some (.lst xs) => xs.length | _ => 0) | _ => 0) ⟨A0, R0, [], rfl, s0.trans (same_new hR0), upd_same, .inl ⟨same_new hR0 _ _ hA0, by decide⟩⟩ (fun σ H1 hP => ?_) (fun σ H Q Q' m hh => ?_)
    · obtain ⟨A, R, rs, rfl, s1, hR, ⟨hA, lrs⟩ | ⟨k0, k1, hA, lrs, k00, kb, hc, hk⟩ | ⟨x, hA, hst⟩⟩ := hP
      · refine ⟨_, rfl, A, _, rfl, .inl (SqL.of hA), _, _, rfl, rfl, _, rfl, iteT ?_⟩
        refine ⟨_, rfl, _, rfl, A, _, _, .int m2, rfl, rfl, SqL.of hA, atI_last [V.int m0, V.int m1] _, _, rfl, _, rfl, A, _, 0, .int m0, rfl, rfl, SqL.of hA, a0, _, _, rfl, rfl, _, rfl, ite2 (fun cc => ?_) (fun cc => ?_)⟩
        · have h2 : absI m2 ≥ m0 := toB cc
          have est : stillB S b c = false := lad_out1 S1 m00 mr2 h2
          refine ⟨_, rfl, A, rfl, ⟨_, SqL.of hA⟩, fun D hD => lc_list (K := K) (a := A) (xs := [m0, m1, m2].map V.int) (fun i G => Same H1 G ∧ ∃ vs, G D = some (.lst vs) ∧ vs.length = i) ⟨same_new hD, [], upd_same, rfl⟩ (fun i G _ hP => SqL.of (hP.1 _ _ hA)) (fun i x G hx hP => ?_) (fun G hP => ?_)⟩
          · obtain ⟨sG, vs, hvs, lvs⟩ := hP
            rw [List.getElem?_map] at hx
            obtain ⟨n, hn, rfl⟩ := Option.map_eq_some_iff.mp hx
            have li : i < 3 := Nat.lt_of_lt_of_le (List.getElem?_eq_some_iff.mp hn).1 (by show 3 ≤ 3; decide)
            refine ⟨rfl, _, rfl, _, rfl, A, _, 0, .int m0, rfl, rfl, SqL.of (sG _ _ hA), a0, n, m0, rfl, by omega, Nat.lt_trans mb (by decide), fun lo hlo => ?_⟩
            have slo := same_new (o := .tup [.int (lowT n m0), .int (lowB n m0)]) hlo
            refine ⟨_, slo _ _ hvs, small1000 (by omega), fun b o e => ?_, vs ++ [.ref lo], upd_same, by rw [List.length_append, lvs]; rfl⟩
            rw [upd_ne (ne_of_none e hD)]
            exact slo _ _ (sG _ _ e)
          · obtain ⟨sG, vs, hvs, lvs⟩ := hP
            refine ⟨_, rfl, (by show 3 ≤ sizeLine; decide), fun T hT => ?_⟩
            refine q T [.ref D, .ref R] _ (s1.trans (sG.trans (same_new hT))) ?_
            rw [est]
            exact upd_same
        · have h2 : ¬ absI m2 ≥ m0 := toNB cc
          refine ⟨_, rfl, _, rfl, A, _, _, .int m2, rfl, rfl, SqL.of hA, atI_last [V.int m0, V.int m1] _, _, rfl, A, _, 0, .int m0, rfl, rfl, SqL.of hA, a0, m2, m0, rfl, by omega, Nat.lt_trans mb (by decide), fun lo hlo => ?_⟩
          have slo := same_new (o := .tup [.int (lowT m2 m0), .int (lowB m2 m0)]) hlo
          refine ⟨_, rfl, R, rs, rfl, .inr (SqL.of (slo _ _ hR)), ?_, fun R2 hR2 => ?_⟩
          · rw [List.append_nil, List.length_cons]
            exact Nat.le_of_lt (small1000' (by omega))
          rw [List.append_nil]
          have sR2 := slo.trans (same_new (o := .lst (.ref lo :: rs)) hR2)
          have lm : -m0 < m2 ∧ m2 < m0 := by
            unfold absI at h2
            split at h2 <;> omega
          refine ⟨_, rfl, A, m0, [m1], m2, rfl, sR2 _ _ hA, m00, lm.1, lm.2, Nat.lt_trans mb (by decide), (by show 1 ≤ 50; decide), fun g A2 H2 g0 gd s2 hA2 => ?_⟩
          have x1 := gd (m0 * m0 - m2 * m2) (by show _ ∈ [m0 * m0 - m2 * m2, m0 * m1 - m2 * m1]; simp)
          have x2 := gd (m0 * m1 - m2 * m1) (by show _ ∈ [m0 * m0 - m2 * m2, m0 * m1 - m2 * m1]; simp)
          replace hA2 : H2 A2 = some (.lst [.int ((m0 * m0 - m2 * m2) / g), .int ((m0 * m1 - m2 * m1) / g)]) := hA2
          obtain ⟨z1, z2, z3, z4⟩ := lad_step (S := S) (b := b) (c := c) m00 mb lm.1 lm.2 mr1 mr2 S1 g0 x1 x2
          refine ⟨⟨A2, R2, .ref lo :: rs, rfl, s1.trans (sR2.trans s2), s2 _ _ upd_same, .inr (.inl ⟨_, _, hA2, by rw [List.length_cons]; omega, z1, z2, z3, z4⟩)⟩, ?_⟩
          show (match H2 A2 with | some (.lst xs) => xs.length | _ => 0) < (match H1 A with | some (.lst xs) => xs.length | _ => 0)
          rw [hA2, hA]
          show 2 < 3
          decide
      · refine ⟨_, rfl, A, _, rfl, .inl (SqL.of hA), _, _, rfl, rfl, _, rfl, iteT ?_⟩
        refine ⟨_, rfl, _, rfl, A, _, _, .int k1, rfl, rfl, SqL.of hA, atI_last [V.int k0] _, _, rfl, _, rfl, A, _, 0, .int k0, rfl, rfl, SqL.of hA, a0, _, _, rfl, rfl, _, rfl, ite2 (fun cc => ?_) (fun cc => ?_)⟩
        · have h2 : absI k1 ≥ k0 := toB cc
          have est : stillB S b c = false := lad_out2 hk h2
          refine ⟨_, rfl, A, rfl, ⟨_, SqL.of hA⟩, fun D hD => lc_list (K := K) (a := A) (xs := [k0, k1].map V.int) (fun i G => Same H1 G ∧ ∃ vs, G D = some (.lst vs) ∧ vs.length = i) ⟨same_new hD, [], upd_same, rfl⟩ (fun i G _ hP => SqL.of (hP.1 _ _ hA)) (fun i x G hx hP => ?_) (fun G hP => ?_)⟩
          · obtain ⟨sG, vs, hvs, lvs⟩ := hP
            rw [List.getElem?_map] at hx
            obtain ⟨n, hn, rfl⟩ := Option.map_eq_some_iff.mp hx
            have li : i < 3 := Nat.lt_of_lt_of_le (List.getElem?_eq_some_iff.mp hn).1 (by show 2 ≤ 3; decide)
            refine ⟨rfl, _, rfl, _, rfl, A, _, 0, .int k0, rfl, rfl, SqL.of (sG _ _ hA), a0, n, k0, rfl, by omega, Nat.lt_trans kb (by decide), fun lo hlo => ?_⟩
            have slo := same_new (o := .tup [.int (lowT n k0), .int (lowB n k0)]) hlo
            refine ⟨_, slo _ _ hvs, small1000 (by omega), fun b o e => ?_, vs ++ [.ref lo], upd_same, by rw [List.length_append, lvs]; rfl⟩
            rw [upd_ne (ne_of_none e hD)]
            exact slo _ _ (sG _ _ e)
          · obtain ⟨sG, vs, hvs, lvs⟩ := hP
            refine ⟨_, rfl, (by show 3 ≤ sizeLine; decide), fun T hT => ?_⟩
            refine q T [.ref D, .ref R] _ (s1.trans (sG.trans (same_new hT))) ?_
            rw [est]
            exact upd_same
        · have h2 : ¬ absI k1 ≥ k0 := toNB cc
          refine ⟨_, rfl, _, rfl, A, _, _, .int k1, rfl, rfl, SqL.of hA, atI_last [V.int k0] _, _, rfl, A, _, 0, .int k0, rfl, rfl, SqL.of hA, a0, k1, k0, rfl, by omega, Nat.lt_trans kb (by decide), fun lo hlo => ?_⟩
          have slo := same_new (o := .tup [.int (lowT k1 k0), .int (lowB k1 k0)]) hlo
          refine ⟨_, rfl, R, rs, rfl, .inr (SqL.of (slo _ _ hR)), ?_, fun R2 hR2 => ?_⟩
          · rw [List.append_nil, List.length_cons]
            exact Nat.le_of_lt (small1000' (by omega))
          rw [List.append_nil]
          have sR2 := slo.trans (same_new (o := .lst (.ref lo :: rs)) hR2)
          have lm : -k0 < k1 ∧ k1 < k0 := by
            unfold absI at h2
            split at h2 <;> omega
          refine ⟨_, rfl, A, k0, [], k1, rfl, sR2 _ _ hA, k00, lm.1, lm.2, kb, (by show 0 ≤ 50; decide), fun g A2 H2 g0 gd s2 hA2 => ?_⟩
          replace hA2 : H2 A2 = some (.lst [.int ((k0 * k0 - k1 * k1) / g)]) := hA2
          refine ⟨⟨A2, R2, .ref lo :: rs, rfl, s1.trans (sR2.trans s2), s2 _ _ upd_same, .inr (.inr ⟨_, hA2, lad_in hc hk h2⟩)⟩, ?_⟩
          show (match H2 A2 with | some (.lst xs) => xs.length | _ => 0) < (match H1 A with | some (.lst xs) => xs.length | _ => 0)
          rw [hA2, hA]
          show 1 < 2
          decide
      · refine ⟨_, rfl, A, _, rfl, .inl (SqL.of hA), _, _, rfl, rfl, _, rfl, iteF ?_⟩
        refine ⟨_, rfl, (by show 2 ≤ sizeLine; decide), fun T hT => ?_⟩
        refine q T [.ref R] _ (s1.trans (same_new hT)) ?_
        rw [hst]
        exact upd_same
    · obtain ⟨v, e, p, ys, e1, e2, i, j, e3, e4, kk, ek, hq⟩ := hh
      exact ⟨v, e, p, ys, e1, e2, i, j, e3, e4, kk, ek, m _ _ hq⟩
theorem sc_ladder : FnScope ["bottom", "numbers", "common", "place"] ["bottom"] (defScope s_ladder) := ⟨rfl, rfl, rfl, by decide +kernel, rfl, by decide +kernel, by decide +kernel⟩
theorem ok_ladder {f : Addr} {fd : FuncData} (F : Fun K "ladder" "ladder" s_ladder f fd) (c_check_bottom : Cal P w K mg base 5 "check_bottom" ["thing"] spChk) (c_cleared : Cal P w K mg base 3 "cleared" ["pairs"] spCleared) (c_is_long : Cal P w K mg base 1 "is_long" ["common"] spLong) (c_ladder_by_numbers : Cal P w K mg base 4 "ladder_by_numbers" ["numbers"] (spLad K)) : FnOk P w K mg base CX0 6 f fd ["bottom"] spLadder := by
  refine F.ok sc_ladder (fun vs H Q E h => ?_) (fun cdv A outer s H vs Q E hr h => ?_)
  · obtain ⟨a, S, b, c, rfl, _⟩ := h
    rfl
  · obtain ⟨a, S, b, c, rfl, B, q⟩ := h
    refine ⟨_, (pss_cons (ps_expr (pe_cal c_check_bottom hr (pa_cons (pv 0) pa_nil)))
      (pss_cons (ps_asg (pe_cal c_cleared hr (pa_cons (pv 0) pa_nil)) (pg_tup (by rfl) (pgs_cons (pg_name (i := 1) sc_ladder.nd rfl (.inl rfl)) (pgs_cons (pg_name (i := 2) sc_ladder.nd rfl (.inl rfl)) pgs_nil))))
      (pss_cons (ps_if (pt_val (pe_cal c_is_long hr (pa_cons (pv 2) pa_nil))) (pss_one ps_never) pss_nil)
      (pss_one (ps_ret (pe_cal c_ladder_by_numbers hr (pa_cons (pv 1) pa_nil))))))), ?_⟩
    obtain ⟨⟨q0, q1, q2, t1, b1, t2, b2, ha, h0, h1, h2, p1, p2, d1, d2, e1, e2, g1, g2, l1, l2⟩, s0, s1, bb, cb⟩ := B
    have hps : PrsAt H [.ref q0, .ref q1, .ref q2] [(1, 1), (t1, b1), (t2, b2)] := .cons h0 (.cons h1 (.cons h2 .nil))
    have low : Lows [(1, 1), (t1, b1), (t2, b2)] := fun p hp => by
      simp only [List.mem_cons, List.not_mem_nil, or_false] at hp
      rcases hp with rfl | rfl | rfl
      · exact ⟨by decide, by decide⟩
      · exact ⟨by show 1 ≤ b1; omega, g1⟩
      · exact ⟨by show 1 ≤ b2; omega, g2⟩
    refine ⟨_, rfl, a, q0, _, _, rfl, ha, h0, hps, low, (by show 3 ≤ 1000; decide), fun H1 S1 => ?_⟩
    have sb : S.natAbs < 2 ^ 2000 := Nat.lt_of_le_of_lt (show S.natAbs ≤ 2 ^ 20 by omega) (by decide)
    have bt : Btm S [(1, 1), (t1, b1), (t2, b2)] := by
      refine ⟨by omega, sb, fun p hp => ?_⟩
      simp only [List.mem_cons, List.not_mem_nil, or_false] at hp
      rcases hp with rfl | rfl | rfl
      · exact ⟨by decide, Int.one_dvd _, by decide⟩
      · exact ⟨p1, d1, Nat.lt_of_le_of_lt (show t1.natAbs ≤ 2 ^ 30 by omega) (by decide)⟩
      · exact ⟨p2, d2, Nat.lt_of_le_of_lt (show t2.natAbs ≤ 2 ^ 30 by omega) (by decide)⟩
    obtain ⟨c0, cd, cp⟩ := bt.com
    refine ⟨_, rfl, a, _, _, S, rfl, S1 _ _ ha, hps.same S1, bt, (by show 3 ≤ 1000; decide), fun Tp l H2 S2 hT hl => ?_⟩
    have dd1 := cp (t1, b1) (by simp)
    have dd2 := cp (t2, b2) (by simp)
    generalize com ([(1, 1), (t1, b1), (t2, b2)].map (·.2)) = D at *
    refine ⟨Tp, _, rfl, SqT.of hT, rfl, _, _, rfl, _, _, rfl, rfl, ?_⟩
    have Dle : D ≤ S := Int.le_of_dvd (by omega) cd
    refine ⟨_, rfl, D, rfl, Nat.lt_of_le_of_lt (show D.natAbs ≤ 2 ^ 20 by omega) (by decide), _, rfl, iteF ?_⟩
    obtain ⟨x1, f1⟩ := dd1
    obtain ⟨x2, f2⟩ := dd2
    replace f1 : D = b1 * x1 := f1
    replace f2 : D = b2 * x2 := f2
    have v1 : D / b1 = x1 := by rw [f1]; exact Int.mul_ediv_cancel_left _ (by omega)
    have v2 : D / b2 = x2 := by rw [f2]; exact Int.mul_ediv_cancel_left _ (by omega)
    have r1 : t1 * x1 * S = b * D := by
      have : t1 * x1 * S = (t1 * S) * x1 := by grind
      rw [this, e1, f1]
      grind
    have r2 : t2 * x2 * S = c * D := by
      have : t2 * x2 * S = (t2 * S) * x2 := by grind
      rw [this, e2, f2]
      grind
    have small : ∀ x y : Int, x * S = y * D → y.natAbs < 2 ^ 30 → x.natAbs < 2 ^ 60 := fun x y e hy => by
      have h3 : x.natAbs * S.natAbs = y.natAbs * D.natAbs := by rw [← Int.natAbs_mul, ← Int.natAbs_mul, e]
      have h4 : x.natAbs * 1 ≤ x.natAbs * S.natAbs := Nat.mul_le_mul_left _ (by omega)
      have h5 : y.natAbs * D.natAbs ≤ 2 ^ 30 * 2 ^ 20 := Nat.mul_le_mul (by omega) (by omega)
      have h6 : (2 : Nat) ^ 30 * 2 ^ 20 < 2 ^ 60 := by decide
      omega
    replace hl : H2 l = some (.lst [.int (1 * (D / 1)), .int (t1 * (D / b1)), .int (t2 * (D / b2))]) := hl
    rw [v1, v2, Int.ediv_one, Int.one_mul] at hl
    exact ⟨_, rfl, l, D, t1 * x1, t2 * x2, S, b, c, rfl, hl, c0, r1, r2, s0, Nat.lt_of_le_of_lt (show D.natAbs ≤ 2 ^ 20 by omega) (by decide), small _ _ r1 bb, small _ _ r2 cb, fun T rest H3 S3 hT3 => q T rest H3 (S1.trans (S2.trans S3)) hT3⟩
end
end E1

namespace E1
open PySem PySem.Spec PyProof.Rows L2
theorem low_gcd {t b : Int} (hb : b ≠ 0) : gI (lowT t b) (lowB t b) = 1 := by
  have h1 : ∀ {x y : Int}, y ≠ 0 → gI (x / gI x y) (y / gI x y) = 1 := fun {x y} h => by
    have := Int.gcd_ediv_gcd_ediv_gcd (i := x) (j := y) (Int.gcd_pos_of_ne_zero_right x h)
    unfold gI
    rw [this]
    rfl
  unfold lowT lowB
  split
  · rw [← gI_neg t b]
    exact h1 (by omega)
  · exact h1 hb
def spLowP : Sp := fun vs H Q _ => ∃ t b : Int, vs = [.int t, .int b] ∧ 0 < b ∧ b.natAbs < 2 ^ 4000 ∧ ∀ p, H p = none → Q (.ref p) (upd H p (.tup [.int (lowT t b), .int (lowB t b)]))
theorem lowTP {t b : Int} (hb : 0 < b) : t / gI t b = lowT t b ∧ b / gI t b = lowB t b := by
  unfold lowT lowB
  rw [if_neg (by omega), if_neg (by omega)]
  exact ⟨rfl, rfl⟩
theorem low_mul {t b : Int} (hb : 0 < b) : lowT t b * gI t b = t ∧ lowB t b * gI t b = b := by
  rw [← (lowTP hb).1, ← (lowTP hb).2]
  exact ⟨Int.ediv_mul_cancel (Int.gcd_dvd_left ..), Int.ediv_mul_cancel (Int.gcd_dvd_right ..)⟩
theorem low_wn {fi bo ma to : Int} (b0 : 0 < bo) (m0 : 0 < ma) (t0 : -bo ≤ to) (t1 : to ≤ bo) (f0 : -((bo + to) * ma) ≤ fi) (f1 : fi ≤ (bo + to) * ma) {E : Int} (e : 1 ≤ E) : Wn (lowT fi (bo * ma)) (lowB fi (bo * ma)) (lowT to bo) (lowB to bo) E := by
  have bm : 0 < bo * ma := Int.mul_pos b0 m0
  obtain ⟨x1, x2⟩ := low_mul (t := fi) bm
  obtain ⟨y1, y2⟩ := low_mul (t := to) b0
  have g1 := gI_pos (t := fi) (b := bo * ma) (by omega)
  have g2 := gI_pos (t := to) (b := bo) (by omega)
  generalize lowT fi (bo * ma) = T1 at *
  generalize lowB fi (bo * ma) = B1 at *
  generalize lowT to bo = T2 at *
  generalize lowB to bo = B2 at *
  generalize gI fi (bo * ma) = G1 at *
  generalize gI to bo = G2 at *
  have q1 : 0 < B1 := by
    refine Int.lt_of_mul_lt_mul_right (a := G1) ?_ (by omega)
    rw [Int.zero_mul, x2]
    exact bm
  have q2 : 0 < B2 := by
    refine Int.lt_of_mul_lt_mul_right (a := G2) ?_ (by omega)
    rw [Int.zero_mul, y2]
    exact b0
  have gg : 0 < G1 * G2 := Int.mul_pos g1 g2
  have right : (B2 + T2) * B1 * (G1 * G2) = (bo + to) * ma * bo := by
    have e1 : (B2 + T2) * B1 * (G1 * G2) = (B2 * G2 + T2 * G2) * (B1 * G1) := by grind
    rw [e1, x2, y1, y2]
    grind
  have left : T1 * B2 * (G1 * G2) = fi * bo := by
    have e1 : T1 * B2 * (G1 * G2) = (T1 * G1) * (B2 * G2) := by grind
    rw [e1, x1, y2]
  refine ⟨q1, q2, e, ?_, ?_, ?_, ?_⟩
  · refine Int.le_of_mul_le_mul_right (a := G2) ?_ g2
    rw [Int.neg_mul, y1, y2]
    exact t0
  · refine Int.le_of_mul_le_mul_right (a := G2) ?_ g2
    rw [y1, y2]
    exact t1
  · refine Int.le_of_mul_le_mul_right (a := G1 * G2) ?_ gg
    rw [left, right]
    exact Int.mul_le_mul_of_nonneg_right f1 (by omega)
  · refine Int.le_of_mul_le_mul_right (a := G1 * G2) ?_ gg
    have e1 : -T1 * B2 * (G1 * G2) = -(T1 * B2 * (G1 * G2)) := by grind
    rw [e1, left, right]
    have := Int.mul_le_mul_of_nonneg_right f0 (show 0 ≤ bo by omega)
    rw [Int.neg_mul] at this
    omega
theorem pick4 {k : Int} (x0 x1 x2 x3 : Int) (h0 : 0 ≤ k) (h1 : k < 4) : ∃ v : Int, atI [V.int x0, V.int x1, V.int x2, V.int x3] k = some (.int v) ∧ (v = x0 ∨ v = x1 ∨ v = x2 ∨ v = x3) := by
  rcases (by omega : k = 0 ∨ k = 1 ∨ k = 2 ∨ k = 3) with rfl | rfl | rfl | rfl
  · exact ⟨x0, atI_nat (j := 0) rfl, .inl rfl⟩
  · exact ⟨x1, atI_nat (j := 1) rfl, .inr (.inl rfl)⟩
  · exact ⟨x2, atI_nat (j := 2) rfl, .inr (.inr (.inl rfl))⟩
  · exact ⟨x3, atI_nat (j := 3) rfl, .inr (.inr (.inr rfl))⟩
theorem WellAt.ne {H : Hp} {a p : Addr} {c : Int} (h : WellAt H a c) (n : H p = none) : p ≠ a := fun e => by
  obtain ⟨_, _, _, z, _⟩ := h
  rw [← e, n] at z
  cases z

theorem low_wn1 {fi bo to : Int} (b0 : 0 < bo) (t0 : -bo ≤ to) (t1 : to ≤ bo) (f0 : -(bo + to) ≤ fi) (f1 : fi ≤ bo + to) {E : Int} (e : 1 ≤ E) : Wn (lowT fi bo) (lowB fi bo) (lowT to bo) (lowB to bo) E := by
  have := low_wn (ma := 1) b0 (by decide) t0 t1 (by rw [Int.mul_one]; exact f0) (by rw [Int.mul_one]; exact f1) e
  rw [Int.mul_one] at this
  exact this
theorem lowT_le {t b : Int} : (lowT t b).natAbs ≤ t.natAbs := by
  unfold lowT
  refine Nat.le_trans (Int.natAbs_ediv_le_natAbs _ _) ?_
  split <;> omega
theorem lowB_le {t b : Int} : (lowB t b).natAbs ≤ b.natAbs := by
  unfold lowB
  refine Nat.le_trans (Int.natAbs_ediv_le_natAbs _ _) ?_
  split <;> omega
theorem low_facts {t S : Int} (h : 0 < S) : 0 < lowB t S ∧ lowB t S ∣ S ∧ lowT t S * S = t * lowB t S := by
  obtain ⟨x, y⟩ := low_mul (t := t) h
  have g0 := gI_pos (t := t) (b := S) (by omega)
  refine ⟨?_, ⟨_, y.symm⟩, ?_⟩
  · refine Int.lt_of_mul_lt_mul_right (a := gI t S) ?_ (by omega)
    rw [Int.zero_mul, y]
    exact h
  · have e1 : lowT t S * S = lowT t S * (lowB t S * gI t S) := by rw [y]
    have e2 : t * lowB t S = lowT t S * gI t S * lowB t S := by rw [x]
    rw [e1, e2]
    grind
theorem offU_nn {t b d E n : Int} (hd : 0 < d) : 0 ≤ offU t b d E n := by
  unfold offU
  refine Int.mul_nonneg ?_ (by omega)
  unfold absI
  split <;> omega
theorem offU_zero {t b d E n m : Int} (hb : 0 < b) (hd : 0 < d) (e : t * E = m * b) : (offU t b d E m = 0) ∧ (offU t b d E n ≤ 0 → n = m) := by
  unfold offU
  rw [e]
  constructor
  · rw [Int.sub_self]
    unfold absI
    rw [if_neg (by omega), Int.zero_mul]
  · intro h
    have h1 : absI (n * b - m * b) ≤ 0 := by
      refine Int.le_of_mul_le_mul_right (a := d) ?_ hd
      rw [Int.zero_mul]
      exact h
    have h2 : n * b - m * b = 0 := by
      unfold absI at h1
      split at h1 <;> omega
    exact Int.eq_of_mul_eq_mul_right (a := b) (by omega) (by omega)
theorem near_self {S b c : Int} (S1 : 1 ≤ S) (h : stillB S b c = true) : NearIs (lowT b S) (lowB b S) (lowT c S) (lowB c S) S b c [] := by
  obtain ⟨p1, _, e1⟩ := low_facts (t := b) (S := S) (by omega)
  obtain ⟨p2, _, e2⟩ := low_facts (t := c) (S := S) (by omega)
  generalize lowT b S = t1 at *
  generalize lowB b S = b1 at *
  generalize lowT c S = t2 at *
  generalize lowB c S = b2 at *
  have z1 := offU_zero (n := b) p1 p2 e1
  have z2 := offU_zero (n := c) p2 p1 e2
  have o0 : offI t1 b1 t2 b2 S b c = 0 := by
    unfold offI
    rw [z1.1, z2.1]
    rfl
  have no : ∀ x y, lt3 (tr t1 b1 t2 b2 S x y) (tr t1 b1 t2 b2 S b c) = true → False := fun x y lt => by
    obtain ⟨g1, g2⟩ := offI_ge t1 b1 t2 b2 S x y
    have n1 := offU_nn (t := t1) (b := b1) (d := b2) (E := S) (n := x) p2
    unfold lt3 le3 at lt
    have ng := of_decide_eq_false (Bool.not_eq_true' _ ▸ lt)
    replace ng : ¬ (offI t1 b1 t2 b2 S b c < offI t1 b1 t2 b2 S x y ∨ offI t1 b1 t2 b2 S b c = offI t1 b1 t2 b2 S x y ∧ (b < x ∨ b = x ∧ c ≤ y)) := ng
    rw [o0] at ng
    have le0 : offI t1 b1 t2 b2 S x y ≤ 0 := by
      refine Int.not_lt.mp fun z => ng (.inl z)
    have ex := (offU_zero (n := x) p1 p2 e1).2 (by omega)
    have ey := (offU_zero (n := y) p2 p1 e2).2 (by omega)
    subst ex ey
    exact ng (.inr ⟨by omega, .inr ⟨rfl, Int.le_refl _⟩⟩)
  refine ⟨h, ?_, .nil, .nil, by decide, fun x y t => ?_, fun x y lt => (no x y lt).elim⟩
  · rw [o0]
    exact Int.mul_nonneg (Int.mul_nonneg (by decide) (by omega)) (by omega)
  · constructor
    · intro z
      cases z
    · rintro ⟨lt, _⟩
      exact (no x y lt).elim
theorem near_one {t1 b1 t2 b2 E b c b' c' : Int} {rows rows' : List (Int × Int × Bool)} (N : NearIs t1 b1 t2 b2 E b c rows) (N' : NearIs t1 b1 t2 b2 E b' c' rows') : b' = b ∧ c' = c ∧ rows' = rows := by
  have n1 : lt3 (tr t1 b1 t2 b2 E b c) (tr t1 b1 t2 b2 E b' c') = false := by
    cases h : lt3 (tr t1 b1 t2 b2 E b c) (tr t1 b1 t2 b2 E b' c') with
    | false => rfl
    | true =>
      have := N'.no _ _ h
      rw [N.st] at this
      cases this
  have n2 : lt3 (tr t1 b1 t2 b2 E b' c') (tr t1 b1 t2 b2 E b c) = false := by
    cases h : lt3 (tr t1 b1 t2 b2 E b' c') (tr t1 b1 t2 b2 E b c) with
    | false => rfl
    | true =>
      have := N.no _ _ h
      rw [N'.st] at this
      cases this
  have e := le3_anti (Bool.not_eq_false' _ ▸ n1 : le3 (tr t1 b1 t2 b2 E b' c') (tr t1 b1 t2 b2 E b c) = true) (Bool.not_eq_false' _ ▸ n2 : le3 (tr t1 b1 t2 b2 E b c) (tr t1 b1 t2 b2 E b' c') = true)
  have e1 : b' = b := congrArg (fun p : T3 => p.2.1) e
  have e2 : c' = c := congrArg (fun p : T3 => p.2.2) e
  subst e1 e2
  exact ⟨rfl, rfl, rows_same N'.pw N.pw N'.nd N.nd fun ⟨x, y, z⟩ => (N'.mem x y z).trans (N.mem x y z).symm⟩
theorem still_small {S b c : Int} (S2 : S ≤ 2 ^ 20) (h : stillB S b c = true) : b.natAbs < 2 ^ 30 ∧ c.natAbs < 2 ^ 30 ∧ -S ≤ c ∧ c ≤ S ∧ -(S + c) ≤ b ∧ b ≤ S + c := by
  unfold stillB absI at h
  rw [Bool.and_eq_true, decide_eq_true_eq, decide_eq_true_eq] at h
  obtain ⟨h1, h2⟩ := h
  split at h1 <;> split at h2 <;> omega
theorem word_in (x : Bool) : decide (V.str (wordB x) = V.str "in") = x := by
  cases x <;> decide +kernel
theorem no_true : ∀ n : Nat, inV (.bl true) (List.replicate n (V.bl false)) = false
  | 0 => rfl
  | n + 1 => by
    have := no_true n
    rw [List.replicate_succ]
    exact this
theorem iteC {c d : Bool} {A B : Prop} (e : c = d) (h : if d = true then A else B) : if c = true then A else B := e ▸ h
def spIn (K : PySem.W.Frag) : Sp := fun vs H Q _ => ∃ (pp : Addr) (b c S : Int), vs = [.ref pp, .int S] ∧ SqT K H pp [.int b, .int c] ∧ 1 ≤ S ∧ S ≤ 2 ^ 20 ∧ b.natAbs < 2 ^ 30 ∧ c.natAbs < 2 ^ 30 ∧ ∀ H', Same H H' → Q (.bl (stillB S b c)) H'
def spSt (K : PySem.W.Frag) : Sp := fun vs H Q _ => ∃ (pp : Addr) (b c S : Int), vs = [.ref pp, .int S] ∧ SqT K H pp [.int b, .int c] ∧ Q (.bl (stillB S b c)) H
def spNr : Sp := fun vs H Q _ => ∃ (a : Addr) (cn S : Int), vs = [.ref a, .int S] ∧ WellAt H a cn ∧ cn ≤ 1000 ∧ 1 ≤ S ∧ S ≤ 2 ^ 20 ∧ ∀ (p : Addr) (b c : Int) (H' : Hp), H p = none → SameBut a H H' → WellAt H' a (cn + 10) → H' p = some (.tup [.int b, .int c]) → b.natAbs < 2 ^ 30 → c.natAbs < 2 ^ 30 → Q (.ref p) H'
def spLaw (K : PySem.W.Frag) : Sp := fun vs H Q _ => ∃ (a : Addr) (ns : List Int), vs = [.ref a] ∧ SqL K H a (ns.map V.int) ∧ ns.length ≤ 63 ∧ ∀ H', Q (.bl true) H'
theorem pick2i {k x y : Int} (h0 : 0 ≤ k) (h1 : k < 2) (hx : 0 ≤ x ∧ x ≤ 20) (hy : 0 ≤ y ∧ y ≤ 20) : ∃ v : Int, atI [V.int x, V.int y] k = some (.int v) ∧ 0 ≤ v ∧ v ≤ 20 := by
  rcases (by omega : k = 0 ∨ k = 1) with rfl | rfl
  · exact ⟨x, atI_nat (j := 0) rfl, hx⟩
  · exact ⟨y, atI_nat (j := 1) rfl, hy⟩
theorem drawB {m : Int} (h : m.natAbs ≤ 2 ^ 60) : m.natAbs < 2 ^ 9000 := Nat.lt_of_le_of_lt h (by decide)
section
variable {P : Program} {w : World} {K : PySem.W.Frag} {mg : Str → Option Value} {base : Heap}
theorem sc__law_cell_at : FnScope ["_law_script", "_law_k"] ["_law_script", "_law_k"] (defScope s__law_cell_at) := ⟨rfl, rfl, rfl, by decide +kernel, rfl, by decide +kernel, by decide +kernel⟩
theorem sc__law_well : FnScope ["_law_cell"] ["_law_cell"] (defScope s__law_well) := ⟨rfl, rfl, rfl, by decide +kernel, rfl, by decide +kernel, by decide +kernel⟩
theorem sc__law_draw : FnScope ["_law_well_here", "_law_many", "_law_found", "_law_number"] ["_law_well_here", "_law_many"] (defScope s__law_draw) := ⟨rfl, rfl, rfl, by decide +kernel, rfl, by decide +kernel, by decide +kernel⟩
theorem ok_cell {f : Addr} {fd : FuncData} {k : Nat} (F : Fun K "_law_cell_at" "_law_cell_at" s__law_cell_at f fd) (zl : mg "len" = none) : FnOk P w K mg base CX0 (k + 1) f fd ["_law_script", "_law_k"] (spCell K) := by
  refine F.ok sc__law_cell_at (fun vs H Q E h => ?_) (fun cdv A outer s H vs Q E hr h => ?_)
  · obtain ⟨a, ns, k, rfl, _⟩ := h
    rfl
  · obtain ⟨a, ns, k, rfl, hS, q⟩ := h
    refine ⟨_, (pss_cons (ps_if (pt_cmpR op_lt (pv 1) (pe_callB call_len_seq (by rfl) zl PySem.boot_len (pa_cons (pv 0) pa_nil)) (nomark _)) (pss_one (ps_ret (pe_ix ix_list (pv 0) (pv 1) (fun _ _ => rfl)))) pss_nil)
      (pss_one (ps_ret pe_int))), ?_⟩
    refine ⟨_, rfl, _, rfl, a, _, rfl, .inl hS, _, _, rfl, rfl, _, rfl, ite2 (fun c => ?_) (fun c => ?_)⟩
    · have hk : k < ns.length := by
        have := toB c
        rw [List.length_map] at this
        omega
      refine ⟨_, rfl, _, rfl, a, _, k, .int (ns.getD k 0), rfl, rfl, hS, atI_nat ?_, q⟩
      rw [List.getElem?_map, List.getElem?_eq_getElem hk, List.getD_eq_getElem?_getD, List.getElem?_eq_getElem hk]
      rfl
    · have hk : ¬ k < ns.length := fun z => by
        have := toNB c
        rw [List.length_map] at this
        omega
      have e : ns.getD k 0 = 0 := by
        rw [List.getD_eq_getElem?_getD, List.getElem?_eq_none (by omega)]
        rfl
      rw [e] at q
      exact q
theorem ok_well {f : Addr} {fd : FuncData} {k : Nat} (F : Fun K "_law_well" "_law_well" s__law_well f fd) (zi : mg "int" = none) : FnOk P w K mg base CX0 (k + 1) f fd ["_law_cell"] spWell := by
  refine F.ok sc__law_well (fun vs H Q E h => ?_) (fun cdv A outer s H vs Q E hr h => ?_)
  · obtain ⟨c, rfl, _⟩ := h
    rfl
  · obtain ⟨c, rfl, q⟩ := h
    refine ⟨_, (pss_one (ps_ret (pe_lst (pa_cons (pe_op op_mul (pv 0) (pe_callTy call_int1 (by rfl) zi (by decide +kernel) (pa_cons (pe_cmpR op_ge (pv 0) (pe_op op_pow pe_int pe_int) (nomark _)) pa_nil))) (pa_cons (pe_op op_mod (pv 0) pe_int) (pa_cons pe_int pa_nil)))))), ?_⟩
    refine ⟨_, rfl, _, rfl, _, _, rfl, rfl, ⟨by decide, by decide, by decide⟩, _, _, rfl, rfl, .inr ⟨_, rfl, _, _, rfl, rfl, .inr ?_, ?_⟩⟩
    · split <;> decide
    · refine ⟨_, rfl, _, _, rfl, rfl, (by show (0 : Int) < 2147483647; decide), (by show 3 ≤ sizeLine; decide), fun p hp => ?_⟩
      exact q p hp _ (same_new hp) ⟨_, _, _, upd_same, Int.emod_nonneg _ (by decide), Int.emod_lt_of_pos _ (by decide), Int.le_refl _, Int.le_refl _⟩
theorem ok_draw {f : Addr} {fd : FuncData} {k : Nat} (F : Fun K "_law_draw" "_law_draw" s__law_draw f fd) : FnOk P w K mg base CX0 (k + 1) f fd ["_law_well_here", "_law_many"] spDraw := by
  refine F.ok sc__law_draw (fun vs H Q E h => ?_) (fun cdv A outer s H vs Q E hr h => ?_)
  · obtain ⟨a, c, m, rfl, _⟩ := h
    rfl
  · obtain ⟨a, c, m, rfl, ⟨x, y, z, hw, y0, y1, z0, z1⟩, hc, m0, m1, q⟩ := h
    have fr : ∀ o b, H b = none → (upd H a o) b = none := fun o b hb => by
      rw [upd_ne (fun e => by rw [e, hw] at hb; cases hb)]
      exact hb
    refine ⟨_, (pss_cons (ps_if (pt_cmpR op_gt (pe_ix ix_list (pv 0) pe_int (fun _ _ => rfl)) pe_int (nomark _)) (pss_cons (ps_set (i := 2) sc__law_draw.nd rfl (.inl rfl) (pe_op op_mod (pe_ix ix_list (pv 0) pe_int (fun _ _ => rfl)) (pv 1)))
      (pss_cons (ps_asg (pe_op op_fdivW (pe_ix ix_list (pv 0) pe_int (fun _ _ => rfl)) (pv 1)) (pg_sub (pv 0) pe_int set_list))
      (pss_one (ps_ret (pv 2))))) pss_nil)
      (pss_cons (ps_asg (pe_op op_add (pe_ix ix_list (pv 0) pe_int (fun _ _ => rfl)) pe_int) (pg_sub (pv 0) pe_int set_list))
      (pss_cons (ps_set (i := 3) sc__law_draw.nd rfl (.inl rfl) (pe_op op_mod (pe_op op_pow (pe_op op_add (pe_op op_add (pe_ix ix_list (pv 0) pe_int (fun _ _ => rfl)) (pe_op op_mul pe_int (pe_ix ix_list (pv 0) pe_int (fun _ _ => rfl)))) pe_int) pe_int) pe_int))
      (pss_cons (ps_set (i := 3) sc__law_draw.nd rfl (.inl rfl) (pe_op op_mod (pe_op op_mul (pv 3) (pe_op op_add (pe_op op_fdiv (pv 3) pe_int) pe_int)) pe_int))
      (pss_one (ps_ret (pe_op op_mod (pe_op op_mod (pe_op op_mul (pv 3) (pe_op op_add (pe_op op_fdiv (pv 3) pe_int) pe_int)) pe_int) (pv 1)))))))), ?_⟩
    refine ⟨_, rfl, a, _, 0, .int x, rfl, rfl, SqL.of hw, a0, x, 0, rfl, rfl, _, rfl, ite2 (fun c => ?_) (fun c => ?_)⟩
    · refine ⟨_, rfl, a, _, 0, .int x, rfl, rfl, SqL.of hw, a0, _, rfl, x, m, rfl, rfl, m0, ?_⟩
      refine ⟨_, rfl, a, _, 0, .int x, rfl, rfl, SqL.of hw, a0, _, rfl, x, m, rfl, rfl, wide_div m0 m1 (by decide) (Nat.le_refl _), _, rfl, a, _, 0, 0, rfl, rfl, hw, rfl, ?_⟩
      refine ⟨_, rfl, q _ _ (Int.emod_nonneg _ (by omega)) (Int.emod_lt_of_pos _ m0) SameBut.upd (fr _) ⟨_, _, _, upd_same, y0, y1, z0, by omega⟩⟩
    · refine ⟨_, rfl, a, _, 2, .int z, rfl, rfl, SqL.of hw, a2, z, 1, rfl, rfl, _, rfl, a, _, 2, 2, rfl, rfl, hw, rfl, ?_⟩
      have hw2 : (upd H a (.lst [V.int x, V.int y, V.int (z + 1)])) a = some (.lst [V.int x, V.int y, V.int (z + 1)]) := upd_same
      have n5 : 0 ≤ y + 7919 * (z + 1) + 1 ∧ y + 7919 * (z + 1) + 1 < 18446744073709551616 := by omega
      refine ⟨_, rfl, a, _, 1, .int y, rfl, rfl, SqL.of hw2, a1, _, rfl, a, _, 2, .int (z + 1), rfl, rfl, SqL.of hw2, a2, _, _, rfl, rfl, .inl ⟨by decide, by decide⟩, _, _, rfl, rfl, _, _, rfl, rfl, _, _, rfl, rfl, ⟨by decide, by decide, ?_⟩, _, _, rfl, rfl, (by show (0 : Int) < 2147483647; decide), ?_⟩
      · show (y + 7919 * (z + 1) + 1).natAbs < 18446744073709551616
        omega
      · generalize hn : (y + 7919 * (z + 1) + 1) ^ (5 : Int).toNat % 2147483647 = n
        have n0 : 0 ≤ n := by rw [← hn]; exact Int.emod_nonneg _ (by decide)
        have n1 : n < 2147483647 := by rw [← hn]; exact Int.emod_lt_of_pos _ (by decide)
        refine ⟨_, rfl, _, rfl, _, _, rfl, rfl, ⟨by decide, by decide⟩, _, _, rfl, rfl, _, _, rfl, rfl, .inl ⟨by omega, by omega⟩, _, _, rfl, rfl, (by show (0 : Int) < 2147483629; decide), ?_⟩
        generalize hm : n * (n / 1009 + 69621) % 2147483629 = u
        have u0 : 0 ≤ u := by rw [← hm]; exact Int.emod_nonneg _ (by decide)
        have u1 : u < 2147483629 := by rw [← hm]; exact Int.emod_lt_of_pos _ (by decide)
        refine ⟨_, rfl, _, rfl, _, _, rfl, rfl, ⟨by decide, by decide⟩, _, _, rfl, rfl, _, _, rfl, rfl, .inl ⟨by omega, by omega⟩, _, _, rfl, rfl, (by show (0 : Int) < 2147483587; decide), _, rfl, _, _, rfl, rfl, m0, ?_⟩
        exact q _ _ (Int.emod_nonneg _ (by omega)) (Int.emod_lt_of_pos _ m0) SameBut.upd (fr _) ⟨_, _, _, upd_same, y0, y1, by omega, by omega⟩
theorem sc__law_low : FnScope ["_law_top", "_law_bottom", "_law_one", "_law_other"] ["_law_top", "_law_bottom"] (defScope s__law_low) := ⟨rfl, rfl, rfl, by decide +kernel, rfl, by decide +kernel, by decide +kernel⟩
theorem ok__law_low {f : Addr} {fd : FuncData} {k : Nat} (F : Fun K "_law_low" "_law_low" s__law_low f fd) (z : Zs mg) : FnOk P w K mg base CX0 (k + 1) f fd ["_law_top", "_law_bottom"] spLowP := by
  refine F.ok sc__law_low (fun vs H Q E h => ?_) (fun cdv A outer s H vs Q E hr h => ?_)
  · obtain ⟨t, b, rfl, _⟩ := h
    rfl
  · obtain ⟨t, b, rfl, hb, hl, q⟩ := h
    refine ⟨_, (pss_cons (ps_set (i := 2) sc__law_low.nd rfl (.inl rfl) (pe_callB call_abs (by rfl) z.abs (by decide +kernel) (pa_cons (pv 0) pa_nil)))
      (pss_cons (ps_set (i := 3) sc__law_low.nd rfl (.inl rfl) (pv 1))
      (pss_cons (ps_while PassesOwn.never (pt_cmpR op_gt (pv 3) pe_int (nomark _)) (pss_one (ps_par (i := 2) (j := 3) (by rfl) sc__law_low.nd rfl rfl (by decide) rfl rfl (pa_cons (pv 3) (pa_cons (pe_op op_mod (pv 2) (pv 3)) pa_nil)) (by rfl))))
      (pss_one (ps_ret (pe_tup (pa_cons (pe_op op_fdivW (pv 0) (pv 2)) (pa_cons (pe_op op_fdivW (pv 1) (pv 2)) pa_nil)))))))), ?_⟩
    have g0 := gI_pos (t := t) (b := b) (by omega)
    have g1 : (gI t b).natAbs < 2 ^ 4000 := Nat.lt_of_le_of_lt (gI_le (by omega)) hl
    refine ⟨_, rfl, _, rfl, ?_⟩
    refine ⟨_, rfl, ?_⟩
    dsimp only [gName, tSeq]
    refine while_by (fun σ H' => H' = H ∧ ∃ m n : Nat, σ = [some (.int t), some (.int b), some (.int (m : Int)), some (.int (n : Int))] ∧ Nat.gcd m n = Int.gcd t b)
      (fun σ _ => match σ with | [_, _, _, some (.int r)] => r.toNat | _ => 0) ⟨rfl, t.natAbs, b.natAbs, ?_, rfl⟩ (fun σ H1 hP => ?_) (fun σ H Q Q' m hh => ?_)
    · have e1 : (if t < 0 then -t else t) = (t.natAbs : Int) := by split <;> omega
      have e2 : b = (b.natAbs : Int) := by omega
      show [some (V.int t), some (V.int b), some (V.int (if t < 0 then -t else t)), some (V.int b)] = _
      rw [e1, ← e2]
    · obtain ⟨rfl, m, n, rfl, hg⟩ := hP
      refine ⟨_, rfl, _, _, rfl, rfl, _, rfl, ite2 (fun c => ?_) (fun c => ?_)⟩
      · have hn := toB c
        refine ⟨_, rfl, _, rfl, _, rfl, _, _, rfl, rfl, (by omega), _, _, rfl, ⟨⟨rfl, n, m % n, rfl, ?_⟩, ?_⟩⟩
        · rw [← hg, Nat.gcd_comm n (m % n), ← Nat.gcd_rec n m, Nat.gcd_comm]
        · show ((m : Int) % (n : Int)).toNat < ((n : Int)).toNat
          have := Int.emod_lt_of_pos (m : Int) (show (0 : Int) < n by omega)
          have := Int.emod_nonneg (m : Int) (show (n : Int) ≠ 0 by omega)
          omega
      · have hn := toNB c
        have e0 : n = 0 := by omega
        subst e0
        rw [Nat.gcd_zero_right] at hg
        have e2 : (m : Int) = gI t b := by
          unfold gI
          rw [hg]
        rw [e2]
        refine ⟨_, rfl, _, rfl, _, _, rfl, rfl, wide_div g0 g1 (by decide) (by decide), _, rfl, _, rfl, _, _, rfl, rfl, wide_div g0 g1 (by decide) (by decide), (by show 2 ≤ sizeLine; decide), fun p hp => ?_⟩
        have := q p hp
        rw [← (lowTP hb).1, ← (lowTP hb).2] at this
        exact this
    · obtain ⟨v, e, i, j, e1, e2, kk, ek, hq⟩ := hh
      exact ⟨v, e, i, j, e1, e2, kk, ek, m _ _ hq⟩
theorem sc__law_in : FnScope ["_law_pair", "_law_scale"] ["_law_pair", "_law_scale"] (defScope s__law_in) := ⟨rfl, rfl, rfl, by decide +kernel, rfl, by decide +kernel, by decide +kernel⟩
theorem ok__law_in {f : Addr} {fd : FuncData} (F : Fun K "_law_in" "_law_in" s__law_in f fd) (c_ladder : Cal P w K mg base 6 "ladder" ["bottom"] spLadder) (c__law_low : Cal P w K mg base 1 "_law_low" ["_law_top", "_law_bottom"] spLowP) : FnOk P w K mg base CX0 7 f fd ["_law_pair", "_law_scale"] (spIn K) := by
  refine F.ok sc__law_in (fun vs H Q E h => ?_) (fun cdv A outer s H vs Q E hr h => ?_)
  · obtain ⟨pp, b, c, S, rfl, _⟩ := h
    rfl
  · obtain ⟨pp, b, c, S, rfl, hp, S1, S2, bb, cb, q⟩ := h
    refine ⟨_, (pss_one (ps_ret (pe_cmpR op_eq (pe_ix ix_tup (pe_cal c_ladder hr (pa_cons (pe_lst (pa_cons (pe_tup (pa_cons pe_int (pa_cons pe_int pa_nil))) (pa_cons (pe_cal c__law_low hr (pa_cons (pe_ix ix_tup (pv 0) pe_int (fun _ _ => rfl)) (pa_cons (pv 1) pa_nil))) (pa_cons (pe_cal c__law_low hr (pa_cons (pe_ix ix_tup (pv 0) pe_int (fun _ _ => rfl)) (pa_cons (pv 1) pa_nil))) pa_nil)))) pa_nil)) pe_int (fun _ _ => rfl)) pe_str (nomark _)))), ?_⟩
    have sl : S.natAbs < 2 ^ 4000 := Nat.lt_of_le_of_lt (show S.natAbs ≤ 2 ^ 20 by omega) (by decide)
    refine ⟨(by show 2 ≤ sizeLine; decide), fun x0 h0 => ?_⟩
    have s0 := same_new (o := .tup [.int 1, .int 1]) h0
    refine ⟨_, rfl, pp, _, 0, _, rfl, rfl, Same.tup s0 hp, a0, _, rfl, b, S, rfl, by omega, sl, fun x1 h1 => ?_⟩
    have s1 := same_new (o := .tup [.int (lowT b S), .int (lowB b S)]) h1
    refine ⟨_, rfl, pp, _, 1, _, rfl, rfl, Same.tup (s0.trans s1) hp, a1, _, rfl, c, S, rfl, by omega, sl, fun x2 h2 => ?_⟩
    have s2 := same_new (o := .tup [.int (lowT c S), .int (lowB c S)]) h2
    refine ⟨(by show 3 ≤ sizeLine; decide), fun L hL => ?_⟩
    have s3 := same_new (o := .lst [.ref x0, .ref x1, .ref x2]) hL
    obtain ⟨p1, d1, e1⟩ := low_facts (t := b) (S := S) (by omega)
    obtain ⟨p2, d2, e2⟩ := low_facts (t := c) (S := S) (by omega)
    refine ⟨L, S, b, c, rfl, ⟨⟨x0, x1, x2, _, _, _, _, upd_same, s3 _ _ (s2 _ _ (s1 _ _ upd_same)), s3 _ _ (s2 _ _ upd_same), s3 _ _ upd_same, p1, p2, d1, d2, e1, e2, low_gcd (by omega), low_gcd (by omega), lowT_le, lowT_le⟩, S1, S2, bb, cb⟩, fun T rest H' s4 hT => ?_⟩
    refine ⟨T, _, 0, _, rfl, rfl, SqT.of hT, a0, rfl, ?_⟩
    rw [word_in]
    exact q _ (s0.trans (s1.trans (s2.trans (s3.trans s4))))
theorem sc__law_still : FnScope ["_law_pair", "_law_scale"] ["_law_pair", "_law_scale"] (defScope s__law_still) := ⟨rfl, rfl, rfl, by decide +kernel, rfl, by decide +kernel, by decide +kernel⟩
theorem ok__law_still {f : Addr} {fd : FuncData} {k : Nat} (F : Fun K "_law_still" "_law_still" s__law_still f fd) (z : Zs mg) : FnOk P w K mg base CX0 (k + 1) f fd ["_law_pair", "_law_scale"] (spSt K) := by
  refine F.ok sc__law_still (fun vs H Q E h => ?_) (fun cdv A outer s H vs Q E hr h => ?_)
  · obtain ⟨pp, b, c, S, rfl, _⟩ := h
    rfl
  · obtain ⟨pp, b, c, S, rfl, hp, q⟩ := h
    refine ⟨_, (pss_one (ps_ret (pe_and (pe_cmpR op_lt (pe_callB call_abs (by rfl) z.abs (by decide +kernel) (pa_cons (pe_ix ix_tup (pv 0) pe_int (fun _ _ => rfl)) pa_nil)) (pv 1) (nomark _)) (pe_one (pe_cmpR op_lt (pe_callB call_abs (by rfl) z.abs (by decide +kernel) (pa_cons (pe_ix ix_tup (pv 0) pe_int (fun _ _ => rfl)) pa_nil)) (pe_op op_add (pv 1) (pe_ix ix_tup (pv 0) pe_int (fun _ _ => rfl))) (nomark _)))))), ?_⟩
    have q' : Q (.bl (decide (absI c < S) && decide (absI b < S + c))) H := q
    refine ⟨_, rfl, pp, _, 1, _, rfl, rfl, hp, a1, _, rfl, _, rfl, _, _, rfl, rfl, _, rfl, ?_⟩
    show if decide (absI c < S) = true then _ else _
    by_cases hc : absI c < S
    · rw [decide_eq_true hc] at q' ⊢
      rw [Bool.true_and] at q'
      exact iteT ⟨_, rfl, pp, _, 0, _, rfl, rfl, hp, a0, _, rfl, _, rfl, _, rfl, pp, _, 1, _, rfl, rfl, hp, a1, _, _, rfl, rfl, _, _, rfl, rfl, q'⟩
    · rw [decide_eq_false hc] at q' ⊢
      exact iteF q'
theorem sc__law_near : FnScope ["_law_well_here", "_law_scale", "_law_second", "_law_first", "_law_sort"] ["_law_well_here", "_law_scale"] (defScope s__law_near) := ⟨rfl, rfl, rfl, by decide +kernel, rfl, by decide +kernel, by decide +kernel⟩
theorem ok__law_near {f : Addr} {fd : FuncData} (F : Fun K "_law_near" "_law_near" s__law_near f fd) (c__law_draw : Cal P w K mg base 1 "_law_draw" ["_law_well_here", "_law_many"] spDraw) : FnOk P w K mg base CX0 2 f fd ["_law_well_here", "_law_scale"] spNr := by
  refine F.ok sc__law_near (fun vs H Q E h => ?_) (fun cdv A outer s H vs Q E hr h => ?_)
  · obtain ⟨a, cn, S, rfl, _⟩ := h
    rfl
  · obtain ⟨a, cn, S, rfl, w0, hc, S1, S2, q⟩ := h
    refine ⟨_, (pss_cons (ps_set (i := 2) sc__law_near.nd rfl (.inl rfl) (pe_ix ix_list (pe_lst (pa_cons (pe_op op_sub (pe_op op_sub (pe_cal c__law_draw hr (pa_cons (pv 0) (pa_cons (pe_op op_add (pe_op op_mul pe_int (pv 1)) pe_int) pa_nil))) (pv 1)) pe_int) (pa_cons (pe_op op_sub (pv 1) pe_int) (pa_cons (pe_op op_sub pe_int (pv 1)) (pa_cons (pv 1) pa_nil))))) (pe_cal c__law_draw hr (pa_cons (pv 0) (pa_cons pe_int pa_nil))) (fun _ _ => rfl)))
      (pss_cons (ps_set (i := 3) sc__law_near.nd rfl (.inl rfl) (pe_op op_sub (pe_op op_add (pe_op op_add (pv 1) (pv 2)) (pe_cal c__law_draw hr (pa_cons (pv 0) (pa_cons pe_int pa_nil)))) pe_int))
      (pss_cons (ps_set (i := 4) sc__law_near.nd rfl (.inl rfl) (pe_cal c__law_draw hr (pa_cons (pv 0) (pa_cons pe_int pa_nil))))
      (C8.pss_cut (ps_if (pt_cmpR op_eq (pv 4) pe_int (nomark _)) (pss_one (ps_set (i := 3) sc__law_near.nd rfl (.inl rfl) (pe_op op_sub (pe_cal c__law_draw hr (pa_cons (pv 0) (pa_cons (pe_op op_add (pe_op op_mul pe_int (pv 1)) pe_int) pa_nil))) (pe_op op_mul pe_int (pv 1))))) pss_nil)
      (C8.pss_cut (ps_if (pt_cmpR op_eq (pv 4) pe_int (nomark _)) (pss_one (ps_set (i := 3) sc__law_near.nd rfl (.inl rfl) (pe_op op_sub pe_int (pv 3)))) pss_nil)
      (pss_one (ps_ret (pe_tup (pa_cons (pv 3) (pa_cons (pv 2) pa_nil)))))))))), ?_⟩
    refine ⟨_, rfl, _, rfl, _, _, rfl, rfl, .inl ⟨by decide, by decide⟩, _, _, rfl, rfl, a, cn, _, rfl, w0, by omega, by omega, drawB (by omega), fun r1 H1 r10 r11 d1 e1 w1 => ⟨_, rfl, _, _, rfl, rfl, _, _, rfl, rfl, _, rfl, _, _, rfl, rfl, _, rfl, _, _, rfl, rfl, _, rfl, (by show 4 ≤ sizeLine; decide), fun l1 hl1 => ?_⟩⟩
    refine ⟨_, rfl, a, _, 4, rfl, (w1.same (same_new hl1)), by omega, by decide, by decide, fun r2 H2 r20 r21 d2 e2 w2 => ?_⟩
    obtain ⟨c, hcv, vc⟩ := pick4 (r1 - S - 1) (S - 1) (1 - S) S r20 r21
    refine ⟨l1, _, _, _, rfl, rfl, SqL.of (d2 _ _ (w1.ne hl1) upd_same), hcv, ?_⟩
    have D2 := d1.trans ((SameBut.of (same_new hl1)).trans d2)
    have cb : -(2 ^ 21) ≤ c ∧ c ≤ 2 ^ 21 := by omega
    refine ⟨_, rfl, _, rfl, _, _, rfl, rfl, _, rfl, a, _, 3, rfl, w2, by omega, by decide, by decide, fun r3 H3 r30 r31 d3 e3 w3 => ⟨_, _, rfl, rfl, _, _, rfl, rfl, ?_⟩⟩
    have D3 := D2.trans d3
    refine ⟨_, rfl, a, _, 3, rfl, w3, by omega, by decide, by decide, fun r4 H4 r40 r41 d4 e4 w4 => ?_⟩
    have D4 := D3.trans d4
    refine ⟨fun σ G => ∃ b : Int, σ = [some (.ref a), some (.int S), some (.int c), some (.int b), some (.int r4)] ∧ b.natAbs ≤ 2 ^ 24 ∧ SameBut a H G ∧ WellAt G a (cn + 6), ?_, fun σ G hM => ?_⟩
    · refine ⟨_, rfl, rfl, _, rfl, ite2 (fun _ => ?_) (fun _ => ?_)⟩
      · refine ⟨_, rfl, _, rfl, _, _, rfl, rfl, .inl ⟨by decide, by decide⟩, _, _, rfl, rfl, a, _, _, rfl, w4, by omega, by omega, drawB (by omega), fun r5 H5 r50 r51 d5 e5 w5 => ⟨_, rfl, _, _, rfl, rfl, .inl ⟨by decide, by decide⟩, _, _, rfl, rfl, _, rfl, ?_, D4.trans d5, w5.mono (by omega)⟩⟩
        omega
      · exact ⟨_, rfl, by omega, D4, w4.mono (by omega)⟩
    obtain ⟨b, rfl, bb, DG, wG⟩ := hM
    refine ⟨fun σ G' => ∃ b : Int, σ = [some (.ref a), some (.int S), some (.int c), some (.int b), some (.int r4)] ∧ b.natAbs ≤ 2 ^ 24 ∧ G' = G, ?_, fun σ G' hM => ?_⟩
    · refine ⟨_, rfl, rfl, _, rfl, ite2 (fun _ => ?_) (fun _ => ?_)⟩
      · exact ⟨_, rfl, _, _, rfl, rfl, _, rfl, by omega, rfl⟩
      · exact ⟨_, rfl, bb, rfl⟩
    obtain ⟨b', rfl, bb', rfl⟩ := hM
    refine ⟨_, rfl, _, rfl, (by show 2 ≤ sizeLine; decide), fun p hp => ?_⟩
    have sp := same_new (o := .tup [.int b', .int c]) hp
    have np : p ≠ a := wG.ne hp
    have Hp0 : H p = none := by
      cases e : H p with
      | none => rfl
      | some o =>
        rw [DG _ _ np e] at hp
        cases hp
    exact q p b' c _ Hp0 (DG.trans (SameBut.of sp)) ((wG.same sp).mono (by omega)) upd_same (by omega) (by omega)
end
end E1

namespace E1
open PySem PySem.Spec PyProof.Rows L2
section
variable {P : Program} {w : World} {K : PySem.W.Frag} {mg : Str → Option Value} {base : Heap}
theorem sc_law : FnScope ["_law_script", "_law_well_here", "_law_point", "_law_scale", "_law_pairs", "_law_pair", "_law_found", "_law_bottom", "_law_top", "_law_first", "_law_k", "_law_row"] ["_law_script"] (defScope s_law) := ⟨rfl, rfl, rfl, by decide +kernel, rfl, by decide +kernel, by decide +kernel⟩
theorem ok_law {f : Addr} {fd : FuncData} (F : Fun K "law" "law" s_law f fd) (z : Zs mg) (c__law_cell_at : Cal P w K mg base 1 "_law_cell_at" ["_law_script", "_law_k"] (spCell K)) (c__law_well : Cal P w K mg base 1 "_law_well" ["_law_cell"] spWell) (c__law_draw : Cal P w K mg base 1 "_law_draw" ["_law_well_here", "_law_many"] spDraw) (c__law_low : Cal P w K mg base 1 "_law_low" ["_law_top", "_law_bottom"] spLowP) (c__law_in : Cal P w K mg base 7 "_law_in" ["_law_pair", "_law_scale"] (spIn K)) (c__law_still : Cal P w K mg base 1 "_law_still" ["_law_pair", "_law_scale"] (spSt K)) (c__law_near : Cal P w K mg base 2 "_law_near" ["_law_well_here", "_law_scale"] spNr) (c_nearest_still : Cal P w K mg base 5 "nearest_still" ["one", "two", "point"] spNear) : FnOk P w K mg base CX0 8 f fd ["_law_script"] (spLaw K) := by
  refine F.ok sc_law (fun vs H Q E h => ?_) (fun cdv A outer s H vs Q E hr h => ?_)
  · obtain ⟨a, ns, rfl, _⟩ := h
    rfl
  · obtain ⟨a, ns, rfl, hS, hn, q⟩ := h
    refine ⟨_, (pss_cons (ps_set (i := 1) sc_law.nd rfl (.inr rfl) (pe_cal c__law_well hr (pa_cons (pe_cal c__law_cell_at hr (pa_cons (pv 0) (pa_cons pe_int pa_nil))) pa_nil)))
      (pss_cons (ps_set (i := 2) sc_law.nd rfl (.inl rfl) (pe_ix ix_list (pe_lst (pa_cons (pe_cal c__law_draw hr (pa_cons (pv 1) (pa_cons pe_int pa_nil))) (pa_cons (pe_cal c__law_draw hr (pa_cons (pv 1) (pa_cons pe_int pa_nil))) pa_nil))) (pe_cal c__law_draw hr (pa_cons (pv 1) (pa_cons pe_int pa_nil))) (fun _ _ => rfl)))
      (pss_cons (ps_set (i := 3) sc_law.nd rfl (.inr rfl) (pe_op op_shl pe_int (pv 2)))
      (C8.pss_cut (ps_setLc (i := 4) (own := [("_law_k", 10)]) (g := gName 10) (tt := tYes) (te := (tCall spNr [] E0 (tCons (tVar 1) (tCons (tVar 3) tNil)))) (by rfl) sc_law.nd rfl rfl (sw_true rfl rfl rfl (by decide +kernel)) (pi_range1 (by rfl) z.range (pa_cons pe_int pa_nil)) (blkOk_by (own := [("_law_k", 10)]) (N := ["_law_script", "_law_well_here", "_law_point", "_law_scale", "_law_pairs", "_law_pair", "_law_found", "_law_bottom", "_law_top", "_law_first", "_law_k", "_law_row"]) (sc := defScope s_law) (by decide +kernel)) (fun _ _ _ _ _ => by exact (pg_name (i := 10) sc_law.nd rfl (.inl rfl))) (fun _ _ _ _ _ => by exact pts_nil) (fun _ _ _ _ _ => by exact (pe_cal c__law_near hr (pa_cons (pv 1) (pa_cons (pv 3) pa_nil)))))
      (C8.pss_cut (ps_for PassesOwn.never rfl (pi_list (pv 4)) (pg_name (i := 5) sc_law.nd rfl (.inl rfl)) (pss_cons (ps_if (pt_cmpR op_ne (pe_cal c__law_in hr (pa_cons (pv 5) (pa_cons (pv 3) pa_nil))) (pe_cal c__law_still hr (pa_cons (pv 5) (pa_cons (pv 3) pa_nil))) (nomark _)) (pss_one (ps_ret pe_bl)) pss_nil)
      (pss_one (ps_if (pt_val (pe_cal c__law_still hr (pa_cons (pv 5) (pa_cons (pv 3) pa_nil)))) (pss_cons (ps_set (i := 6) sc_law.nd rfl (.inl rfl) (pe_cal c_nearest_still hr (pa_cons (pe_cal c__law_low hr (pa_cons (pe_ix ix_tup (pv 5) pe_int (fun _ _ => rfl)) (pa_cons (pv 3) pa_nil))) (pa_cons (pe_cal c__law_low hr (pa_cons (pe_ix ix_tup (pv 5) pe_int (fun _ _ => rfl)) (pa_cons (pv 3) pa_nil))) (pa_cons (pv 2) pa_nil)))))
      (pss_one (ps_if (pt_cmpR (op_neD hr.units) (pv 6) (pe_tup (pa_cons (pe_ix ix_tup (pv 5) pe_int (fun _ _ => rfl)) (pa_cons (pe_ix ix_tup (pv 5) pe_int (fun _ _ => rfl)) (pa_cons (pe_lst pa_nil) pa_nil)))) (nomark _)) (pss_one (ps_ret pe_bl)) pss_nil))) pss_nil))))
      (pss_cons (ps_set (i := 1) sc_law.nd rfl (.inr rfl) (pe_cal c__law_well hr (pa_cons (pe_cal c__law_cell_at hr (pa_cons (pv 0) (pa_cons pe_int pa_nil))) pa_nil)))
      (pss_cons (ps_set (i := 7) sc_law.nd rfl (.inl rfl) (pe_op op_add pe_int (pe_cal c__law_draw hr (pa_cons (pv 1) (pa_cons pe_int pa_nil)))))
      (pss_cons (ps_set (i := 8) sc_law.nd rfl (.inl rfl) (pe_op op_sub (pe_cal c__law_draw hr (pa_cons (pv 1) (pa_cons (pe_op op_add (pe_op op_mul pe_int (pv 7)) pe_int) pa_nil))) (pv 7)))
      (pss_cons (ps_set (i := 9) sc_law.nd rfl (.inl rfl) (pe_op op_sub (pe_op op_sub (pe_cal c__law_draw hr (pa_cons (pv 1) (pa_cons (pe_op op_add (pe_op op_mul pe_int (pe_op op_add (pv 7) (pv 8))) pe_int) pa_nil))) (pv 7)) (pv 8)))
      (C8.pss_cut (ps_set (i := 6) sc_law.nd rfl (.inl rfl) (pe_cal c_nearest_still hr (pa_cons (pe_cal c__law_low hr (pa_cons (pv 9) (pa_cons (pv 7) pa_nil))) (pa_cons (pe_cal c__law_low hr (pa_cons (pv 8) (pa_cons (pv 7) pa_nil))) (pa_cons (pv 2) pa_nil)))))
      (pss_cons (ps_if (pt_not (pt_val (pe_cal c__law_in hr (pa_cons (pe_slice sl_tup (pv 6) po_none (po_some pe_int)) (pa_cons (pv 3) pa_nil))))) (pss_one (ps_ret pe_bl)) pss_nil)
      (pss_one (ps_ret (pe_not (pe_cmpR op_in_seq pe_bl (pe_lc (own := [("_law_row", 11)]) (g := gName 11) (tt := tYes) (te := tCall (spIn K) [] E0 (tCons (tSl (rSlT K) (tVar 11) tNoPart (tPart (tC (.int 2)))) (tCons (tVar 3) tNil))) (by rfl) sc_law.nd (pi_list (pe_ix ix_tup (pv 6) pe_int (fun _ _ => rfl))) (blkOk_by (own := [("_law_row", 11)]) (N := ["_law_script", "_law_well_here", "_law_point", "_law_scale", "_law_pairs", "_law_pair", "_law_found", "_law_bottom", "_law_top", "_law_first", "_law_k", "_law_row"]) (sc := defScope s_law) (by decide +kernel)) (fun _ _ _ _ _ => by exact (pg_name (i := 11) sc_law.nd rfl (.inl rfl))) (fun _ _ _ _ _ => by exact pts_nil) (fun _ _ _ _ _ => by exact (pe_cal c__law_in hr (pa_cons (pe_slice sl_tup (pv 11) po_none (po_some pe_int)) (pa_cons (pv 3) pa_nil))))) (by rfl)))))))))))))))), ?_⟩
    refine ⟨_, rfl, a, ns, 0, rfl, hS, _, rfl, fun w1 hw1 H1 s1 k1 => ?_⟩
    refine ⟨_, rfl, w1, 0, 5, rfl, k1, by decide, by decide, by decide, fun r2 H2 r20 r21 d2 e2 k2 => ?_⟩
    refine ⟨_, rfl, w1, _, 21, rfl, k2, by decide, by decide, by decide, fun r3 H3 r30 r31 d3 e3 k3 => ⟨(by show 2 ≤ sizeLine; decide), fun l3 hl3 => ?_⟩⟩
    refine ⟨_, rfl, w1, _, 2, rfl, k3.same (same_new hl3), by decide, by decide, by decide, fun r4 H4 r40 r41 d4 e4 k4 => ?_⟩
    obtain ⟨sp, hsp, sp0, sp1⟩ := pick2i (x := r2) (y := r3) r40 r41 (by omega) (by omega)
    refine ⟨l3, _, _, _, rfl, rfl, SqL.of (d4 _ _ (k3.ne hl3) upd_same), hsp, ?_⟩
    have S4 : Same H H4 := same_but s1 (d2.trans (d3.trans ((SameBut.of (same_new hl3)).trans d4))) hw1
    refine ⟨_, rfl, _, _, rfl, rfl, ⟨sp0, by omega, by decide⟩, ?_⟩
    generalize hE : (2 : Int) ^ sp.toNat = E
    have eE : (1 : Int) * 2 ^ sp.toNat = E := by rw [Int.one_mul, hE]
    dsimp only
    rw [eE]
    have E1 : 1 ≤ E := by
      rw [← hE]
      have : (0 : Int) < 2 ^ sp.toNat := Int.pow_pos (by decide)
      omega
    have E2 : E ≤ 2 ^ 20 := by
      rw [← hE]
      have := Nat.pow_le_pow_right (n := 2) (by decide) (show sp.toNat ≤ 20 by omega)
      exact_mod_cast this
    have sl : E.natAbs < 2 ^ 4000 := Nat.lt_of_le_of_lt (show E.natAbs ≤ 2 ^ 20 by omega) (by decide)
    refine ⟨fun σ G => ∃ (L : Addr) (vs : List V), σ = [some (.ref a), some (.ref w1), some (.int sp), some (.int E), some (.ref L), none, none, none, none, none, none, none] ∧ Same H G ∧ G L = some (.lst vs) ∧ ∀ v ∈ vs, ∃ (p : Addr) (b c : Int), v = .ref p ∧ G p = some (.tup [.int b, .int c]) ∧ b.natAbs < 2 ^ 30 ∧ c.natAbs < 2 ^ 30, ?_, fun σ G hM => ?_⟩
    · refine ⟨6, rfl, by decide, by decide, fun L hL => lc_range (lo := 0) (n := 6) (fun i G => Same H G ∧ WellAt G w1 (3 + 10 * i) ∧ ∃ vs : List V, G L = some (.lst vs) ∧ vs.length = i ∧ ∀ v ∈ vs, ∃ (p : Addr) (b c : Int), v = .ref p ∧ G p = some (.tup [.int b, .int c]) ∧ b.natAbs < 2 ^ 30 ∧ c.natAbs < 2 ^ 30) ⟨S4.trans (same_new hL), (k4.same (same_new hL)).mono (by omega), [], upd_same, rfl, (fun v hv => absurd hv List.not_mem_nil)⟩ (fun i G hi hP => ?_) (fun G hP => ?_)⟩
      · obtain ⟨sG, kG, vs, hvs, lvs, hall⟩ := hP
        refine ⟨rfl, _, rfl, _, rfl, w1, _, E, rfl, kG, by omega, E1, E2, fun p b c G2 np dG kG2 hp bb cb => ?_⟩
        have nLw : L ≠ w1 := k4.ne hL
        have npL : p ≠ L := fun e => by
          rw [e, hvs] at np
          cases np
        have hL2 := dG _ _ nLw hvs
        have wl : ∃ us, G w1 = some (.lst us) := by
          obtain ⟨_, _, _, z, _⟩ := kG
          exact ⟨_, z⟩
        obtain ⟨us, hus⟩ := wl
        refine ⟨_, hL2, small1000 (by omega), fun x o e => ?_, ?_, vs ++ [.ref p], upd_same, by rw [List.length_append, lvs]; rfl, fun v hv => ?_⟩
        · have nx : x ≠ L := ne_of_none (S4 _ _ e) hL
          rw [upd_ne nx]
          exact dG _ _ (ne_of_none e hw1) (sG _ _ e)
        · exact (kG2.but SameBut.upd nLw.symm).mono (by omega)
        · rcases List.mem_append.mp hv with hv | hv
          · obtain ⟨p', b', c', rfl, hp', bb', cb'⟩ := hall v hv
            have h2 := dG _ _ (ne_of hp' hus (fun z => nomatch z)) hp'
            exact ⟨p', b', c', rfl, by rw [upd_ne (ne_of h2 hL2 (fun z => nomatch z))]; exact h2, bb', cb'⟩
          · rw [List.mem_singleton.mp hv]
            exact ⟨p, b, c, rfl, by rw [upd_ne npL]; exact hp, bb, cb⟩
      · obtain ⟨sG, kG, vs, hvs, lvs, hall⟩ := hP
        exact ⟨L, vs, rfl, sG, hvs, hall⟩
    clear k1 k2 k3 k4 d2 d3 d4 e2 e3 e4 S4
    obtain ⟨L, vs, rfl, sG, hvs, hall⟩ := hM
    have wdOf : ∀ (fi bo to : Int) (x1 x2 : Addr) (G0 : Hp), 0 < bo → bo ≤ 2 ^ 20 → -bo ≤ to → to ≤ bo → -(bo + to) ≤ fi → fi ≤ bo + to → G0 x1 = some (.tup [.int (lowT fi bo), .int (lowB fi bo)]) → G0 x2 = some (.tup [.int (lowT to bo), .int (lowB to bo)]) → Wd G0 x1 x2 (lowT fi bo) (lowB fi bo) (lowT to bo) (lowB to bo) (2 ^ sp.toNat) := fun fi bo to x1 x2 G0 b0 b1 t0 t1 f0 f1 h1 h2 => by
      rw [hE]
      have l1 := lowT_le (t := fi) (b := bo)
      have l2 := lowB_le (t := fi) (b := bo)
      have l3 := lowT_le (t := to) (b := bo)
      have l4 := lowB_le (t := to) (b := bo)
      exact ⟨h1, h2, low_gcd (by omega), low_gcd (by omega), low_wn1 b0 t0 t1 f0 f1 E1, by omega, by omega, by omega, by omega, E2⟩
    refine ⟨fun σ G2 => ∃ y5 y6 : Option V, σ = [some (.ref a), some (.ref w1), some (.int sp), some (.int E), some (.ref L), y5, y6, none, none, none, none, none] ∧ Same G G2, ?_, fun σ G2 hM => ?_⟩
    · refine ⟨_, rfl, L, rfl, ⟨_, SqL.of hvs⟩, for_list (K := K) (a := L) (xs := vs) (fun i σ G2 => ∃ y5 y6 : Option V, σ = [some (.ref a), some (.ref w1), some (.int sp), some (.int E), some (.ref L), y5, y6, none, none, none, none, none] ∧ Same G G2) ⟨_, _, rfl, Same.refl _⟩ (fun i σ G2 _ hP => ?_) (fun i v σ G2 hv hP => ?_) (fun σ G2 hP => ?_)⟩
      · obtain ⟨y5, y6, rfl, s2⟩ := hP
        exact SqL.of (s2 _ _ hvs)
      · obtain ⟨y5, y6, rfl, s2⟩ := hP
        obtain ⟨p, b, c, rfl, hp, bb, cb⟩ := hall v (List.mem_of_getElem? hv)
        have hp2 := s2 _ _ hp
        refine ⟨_, rfl, _, rfl, p, b, c, E, rfl, SqT.of hp2, E1, E2, bb, cb, fun G3 s3 => ?_⟩
        have hp3 := s3 _ _ hp2
        refine ⟨_, rfl, _, rfl, p, b, c, E, rfl, SqT.of hp3, rfl, _, rfl, iteNS rfl ?_⟩
        refine ⟨_, rfl, _, rfl, p, b, c, E, rfl, SqT.of hp3, _, rfl, ?_⟩
        cases hst : stillB E b c with
        | false => exact iteF ⟨_, _, rfl, s2.trans s3⟩
        | true =>
          obtain ⟨_, _, c0, c1, b0, b1⟩ := still_small E2 hst
          refine iteT ?_
          refine ⟨_, rfl, p, _, 0, _, rfl, rfl, SqT.of hp3, a0, _, rfl, b, E, rfl, by omega, sl, fun x1 h1 => ?_⟩
          have z1 := same_new (o := .tup [.int (lowT b E), .int (lowB b E)]) h1
          refine ⟨_, rfl, p, _, 1, _, rfl, rfl, SqT.of (z1 _ _ hp3), a1, _, rfl, c, E, rfl, by omega, sl, fun x2 h2 => ?_⟩
          have z2 := same_new (o := .tup [.int (lowT c E), .int (lowB c E)]) h2
          refine ⟨_, rfl, x1, x2, sp, _, _, _, _, rfl, sp0, sp1, wdOf b E c x1 x2 _ (by omega) (by omega) c0 c1 b0 b1 (z2 _ _ upd_same) upd_same, fun r M bB cB rows G4 nr nM nMr s4 hr2 hR hN => ?_⟩
          rw [hE] at hN
          obtain ⟨rfl, rfl, rfl⟩ := near_one (near_self E1 hst) hN
          obtain ⟨ps, hM, _, em⟩ := hR
          have ep : ps = [] := List.map_eq_nil_iff.mp em
          subst ep
          have Z := z1.trans (z2.trans s4)
          have hp4 := Z _ _ hp3
          refine ⟨_, rfl, _, rfl, p, _, 0, _, rfl, rfl, SqT.of hp4, a0, _, rfl, p, _, 1, _, rfl, rfl, SqT.of hp4, a1, (by show 0 ≤ sizeLine; decide), fun e0 he0 => ⟨(by show 3 ≤ sizeLine; decide), fun e1 he1 => ?_⟩⟩
          have y1 := same_new (o := .lst []) he0
          have y2 := same_new (o := .tup [.int bB, .int cB, .ref e0]) he1
          refine ⟨.tuple [.int bB, .int cB, .list []], .tuple [.int bB, .int cB, .list []], .tup (SqT.of (y2 _ _ (y1 _ _ hr2))) (.cons (.int _) (.cons (.int _) (.cons (.lst (SqL.of (y2 _ _ (y1 _ _ hM))) .nil) .nil))), .tup (SqT.of upd_same) (.cons (.int _) (.cons (.int _) (.cons (.lst (SqL.of (y2 _ _ upd_same)) .nil) .nil))), rfl, rfl, _, rfl, iteC (d := false) (by rw [SeqAt.eqv_refl _ (SeqAt.canLay_of_shaped rfl)]; rfl) (iteF ⟨_, _, rfl, s2.trans (s3.trans (Z.trans (y1.trans y2)))⟩)⟩
      · obtain ⟨y5, y6, rfl, s2⟩ := hP
        exact ⟨_, _, rfl, s2⟩
    obtain ⟨y5, y6, rfl, s2⟩ := hM
    have SH := sG.trans s2
    refine ⟨_, rfl, a, ns, 1, rfl, SH.seq hS, _, rfl, fun w2 hw2 H5 s5 k5 => ?_⟩
    refine ⟨_, rfl, w2, 0, 40, rfl, k5, by decide, by decide, by decide, fun r6 H6 r60 r61 d6 e6 k6 => ⟨_, _, rfl, rfl, ?_⟩⟩
    obtain ⟨bo, hbo⟩ : ∃ bo : Int, 1 + r6 = bo := ⟨_, rfl⟩
    dsimp only
    rw [hbo]
    refine ⟨_, rfl, _, rfl, _, _, rfl, rfl, .inl ⟨by decide, by decide⟩, _, _, rfl, rfl, w2, _, _, rfl, k6, by decide, by omega, drawB (by omega), fun r7 H7 r70 r71 d7 e7 k7 => ⟨_, rfl, _, _, rfl, rfl, ?_⟩⟩
    obtain ⟨to, hto⟩ : ∃ to : Int, r7 - bo = to := ⟨_, rfl⟩
    dsimp only
    rw [hto]
    refine ⟨_, rfl, _, rfl, _, rfl, _, _, rfl, rfl, _, _, rfl, rfl, .inl ⟨by decide, by decide⟩, _, _, rfl, rfl, w2, _, _, rfl, k7, by decide, by omega, drawB (by omega), fun r8 H8 r80 r81 d8 e8 k8 => ⟨_, rfl, _, _, rfl, rfl, _, rfl, _, _, rfl, rfl, ?_⟩⟩
    obtain ⟨fi, hfi⟩ : ∃ fi : Int, r8 - bo - to = fi := ⟨_, rfl⟩
    dsimp only
    rw [hfi]
    have bl : bo.natAbs < 2 ^ 4000 := Nat.lt_of_le_of_lt (show bo.natAbs ≤ 2 ^ 20 by omega) (by decide)
    refine ⟨fun σ G3 => ∃ (r M : Addr) (bB cB : Int) (rows : List (Int × Int × Bool)), σ = [some (.ref a), some (.ref w2), some (.int sp), some (.int E), some (.ref L), y5, some (.ref r), some (.int bo), some (.int to), some (.int fi), none, none] ∧ G3 r = some (.tup [.int bB, .int cB, .ref M]) ∧ RowsAt G3 M rows ∧ NearIs (lowT fi bo) (lowB fi bo) (lowT to bo) (lowB to bo) E bB cB rows, ?_, fun σ G3 hM => ?_⟩
    · refine ⟨_, rfl, _, rfl, fi, bo, rfl, by omega, bl, fun x1 h1 => ?_⟩
      have z1 := same_new (o := .tup [.int (lowT fi bo), .int (lowB fi bo)]) h1
      refine ⟨_, rfl, _, rfl, to, bo, rfl, by omega, bl, fun x2 h2 => ?_⟩
      have z2 := same_new (o := .tup [.int (lowT to bo), .int (lowB to bo)]) h2
      refine ⟨_, rfl, x1, x2, sp, _, _, _, _, rfl, sp0, sp1, wdOf fi bo to x1 x2 _ (by omega) (by omega) (by omega) (by omega) (by omega) (by omega) (z2 _ _ upd_same) upd_same, fun r M bB cB rows G4 nr nM nMr s4 hr2 hR hN => ?_⟩
      rw [hE] at hN
      exact ⟨r, M, bB, cB, rows, rfl, hr2, hR, hN⟩
    obtain ⟨r, M, bB, cB, rows, rfl, hr2, hR, hN⟩ := hM
    obtain ⟨sb, sc, _, _, _, _⟩ := still_small E2 hN.st
    refine ⟨_, rfl, _, rfl, r, _, rfl, SqT.of hr2, (by show ¬ (HT.sIx 3 0 none = 0 ∧ HT.sIx 3 3 (some 2) = 3); decide), fun v hv => ?_⟩
    have sv := same_new (o := .tup [.int bB, .int cB]) hv
    refine ⟨_, rfl, v, bB, cB, E, rfl, SqT.of upd_same, E1, E2, sb, sc, fun G4 s4 => ?_⟩
    rw [hN.st]
    refine ⟨_, rfl, iteF ?_⟩
    have Z := sv.trans s4
    obtain ⟨ps, hps, hw, em⟩ := hR.same Z
    have lr := congrArg List.length em
    rw [List.length_map] at lr
    have l25 := hN.len
    have wn1 : Wn (lowT fi bo) (lowB fi bo) (lowT to bo) (lowB to bo) E := low_wn1 (by omega) (by omega) (by omega) (by omega) (by omega) E1
    have rowsB : ∀ p ∈ ps, p.2.1.natAbs < 2 ^ 30 ∧ p.2.2.1.natAbs < 2 ^ 30 ∧ stillB E p.2.1 p.2.2.1 = false := fun p hp => by
      have hm : (p.2.1, p.2.2.1, p.2.2.2) ∈ rows := by
        rw [← em]
        exact List.mem_map.mpr ⟨p, hp, rfl⟩
      have lt := ((hN.mem _ _ _).mp hm).1
      have of : offI (lowT fi bo) (lowB fi bo) (lowT to bo) (lowB to bo) E p.2.1 p.2.2.1 ≤ 2 * lowB fi bo * lowB to bo := by
        have a := of_decide_eq_false (Bool.not_eq_true' _ ▸ lt)
        have a2 : ¬ (offI (lowT fi bo) (lowB fi bo) (lowT to bo) (lowB to bo) E bB cB < offI (lowT fi bo) (lowB fi bo) (lowT to bo) (lowB to bo) E p.2.1 p.2.2.1) := fun z => a (.inl z)
        have := hN.off
        omega
      obtain ⟨g1, g2⟩ := off_grid wn1 of
      have dv : ∀ (t b : Int), t.natAbs ≤ 100 → (t * E / b).natAbs ≤ 100 * 2 ^ 20 := fun t b ht => by
        refine Nat.le_trans (Int.natAbs_ediv_le_natAbs _ _) ?_
        rw [Int.natAbs_mul]
        exact Nat.mul_le_mul ht (by omega)
      have v1 := dv (lowT fi bo) (lowB fi bo) (Nat.le_trans lowT_le (by omega))
      have v2 := dv (lowT to bo) (lowB to bo) (Nat.le_trans lowT_le (by omega))
      exact ⟨by omega, by omega, hN.no _ _ lt⟩
    refine ⟨_, rfl, r, _, 2, _, rfl, rfl, SqT.of (Z _ _ hr2), a2, M, rfl, ⟨_, SqL.of hps⟩, fun D hD => lc_list (K := K) (a := M) (xs := ps.map (·.1)) (fun i G => Same G4 G ∧ G D = some (.lst (List.replicate i (V.bl false)))) ⟨same_new hD, upd_same⟩ (fun i G _ hP => SqL.of (hP.1 _ _ hps)) (fun i x G hx hP => ?_) (fun G hP => ?_)⟩
    · obtain ⟨sGx, hacc⟩ := hP
      rw [List.getElem?_map] at hx
      obtain ⟨p, hp, rfl⟩ := Option.map_eq_some_iff.mp hx
      obtain ⟨tq, ep, ht⟩ := hw p (List.mem_of_getElem? hp)
      have li := (List.getElem?_eq_some_iff.mp hp).1
      obtain ⟨x1, x2, x3⟩ := rowsB p (List.mem_of_getElem? hp)
      refine ⟨rfl, _, rfl, _, rfl, tq, _, ep, SqT.of (sGx _ _ ht), (by show ¬ (HT.sIx 3 0 none = 0 ∧ HT.sIx 3 3 (some 2) = 3); decide), fun v2 hv2 => ?_⟩
      have sv2 := same_new (o := .tup [.int p.2.1, .int p.2.2.1]) hv2
      refine ⟨_, rfl, v2, p.2.1, p.2.2.1, E, rfl, SqT.of upd_same, E1, E2, x1, x2, fun G5 s5 => ?_⟩
      rw [x3]
      have S5 := sv2.trans s5
      refine ⟨_, S5 _ _ hacc, ?_, fun b o e => ?_, ?_⟩
      · rw [List.length_replicate]
        exact small1000 (by omega)
      · rw [upd_ne (ne_of_none e hD)]
        exact S5 _ _ (sGx _ _ e)
      · rw [upd_same, List.replicate_succ']
    · obtain ⟨sGx, hacc⟩ := hP
      refine ⟨D, _, rfl, .inl (SqL.of hacc), rfl, ?_, ?_⟩
      · rw [List.all_replicate]
        simp [flatV]
      · show ∃ c, V.bl (inV (.bl true) (List.replicate _ (V.bl false))) = .bl c ∧ _
        rw [no_true]
        exact ⟨_, rfl, q _⟩
end
end E1

namespace E1
open PySem PySem.Spec PyProof.Rows L2
theorem all_mk {l : PySem.W.OpenLaw} {w : World} {K : PySem.W.Frag} {h : Heap} {mg : Str → Option Value} {fa f_is_whole f_is_fraction f_shared_divisor f_lowest f_plus f_size_of f_under f_is_place f_is_fractions f_common_bottom f_cleared f_is_wanted f_is_still_pair f_numbers_near f_far_off f_nearest_still f_is_bottom f_check_bottom f_is_long f_shortened f_numbers_stepped_down f_ladder_by_numbers f_ladder f__law_cell_at f__law_well f__law_draw f__law_low f__law_in f__law_still f__law_near f_law A_ONE A_NOUGHT : Addr} (X : K.In h) (G : h.Ns mainGlobals mg) (hfa : mg "law" = some (.ref fa))
    {od_is_whole an_is_whole : Option Addr} {sl_is_whole : Array (Option Value)} {oc_is_whole kV_is_whole dc_is_whole pm_is_whole cd_is_whole ct_is_whole : Value}
    (a_is_whole : PySem.W.nsIn K mainGlobals "is_whole" = some (some (.ref f_is_whole)))
    (l_is_whole : K.lookup f_is_whole = some ⟨oc_is_whole, od_is_whole, .func (PySem.W.fnOf "is_whole" "is_whole" (defArgs s_is_whole) (defBody s_is_whole) (defScope s_is_whole) .none kV_is_whole dc_is_whole pm_is_whole an_is_whole cd_is_whole ct_is_whole), sl_is_whole⟩)
    (c_is_whole : PySem.W.codeIn K cd_is_whole "is_whole" = true)
    (k_is_whole : PySem.W.keepIn K (.ref f_is_whole) = true)
    {od_is_fraction an_is_fraction : Option Addr} {sl_is_fraction : Array (Option Value)} {oc_is_fraction kV_is_fraction dc_is_fraction pm_is_fraction cd_is_fraction ct_is_fraction : Value}
    (a_is_fraction : PySem.W.nsIn K mainGlobals "is_fraction" = some (some (.ref f_is_fraction)))
    (l_is_fraction : K.lookup f_is_fraction = some ⟨oc_is_fraction, od_is_fraction, .func (PySem.W.fnOf "is_fraction" "is_fraction" (defArgs s_is_fraction) (defBody s_is_fraction) (defScope s_is_fraction) .none kV_is_fraction dc_is_fraction pm_is_fraction an_is_fraction cd_is_fraction ct_is_fraction), sl_is_fraction⟩)
    (c_is_fraction : PySem.W.codeIn K cd_is_fraction "is_fraction" = true)
    (k_is_fraction : PySem.W.keepIn K (.ref f_is_fraction) = true)
    {od_shared_divisor an_shared_divisor : Option Addr} {sl_shared_divisor : Array (Option Value)} {oc_shared_divisor kV_shared_divisor dc_shared_divisor pm_shared_divisor cd_shared_divisor ct_shared_divisor : Value}
    (a_shared_divisor : PySem.W.nsIn K mainGlobals "shared_divisor" = some (some (.ref f_shared_divisor)))
    (l_shared_divisor : K.lookup f_shared_divisor = some ⟨oc_shared_divisor, od_shared_divisor, .func (PySem.W.fnOf "shared_divisor" "shared_divisor" (defArgs s_shared_divisor) (defBody s_shared_divisor) (defScope s_shared_divisor) .none kV_shared_divisor dc_shared_divisor pm_shared_divisor an_shared_divisor cd_shared_divisor ct_shared_divisor), sl_shared_divisor⟩)
    (c_shared_divisor : PySem.W.codeIn K cd_shared_divisor "shared_divisor" = true)
    (k_shared_divisor : PySem.W.keepIn K (.ref f_shared_divisor) = true)
    {od_lowest an_lowest : Option Addr} {sl_lowest : Array (Option Value)} {oc_lowest kV_lowest dc_lowest pm_lowest cd_lowest ct_lowest : Value}
    (a_lowest : PySem.W.nsIn K mainGlobals "lowest" = some (some (.ref f_lowest)))
    (l_lowest : K.lookup f_lowest = some ⟨oc_lowest, od_lowest, .func (PySem.W.fnOf "lowest" "lowest" (defArgs s_lowest) (defBody s_lowest) (defScope s_lowest) .none kV_lowest dc_lowest pm_lowest an_lowest cd_lowest ct_lowest), sl_lowest⟩)
    (c_lowest : PySem.W.codeIn K cd_lowest "lowest" = true)
    (k_lowest : PySem.W.keepIn K (.ref f_lowest) = true)
    {od_plus an_plus : Option Addr} {sl_plus : Array (Option Value)} {oc_plus kV_plus dc_plus pm_plus cd_plus ct_plus : Value}
    (a_plus : PySem.W.nsIn K mainGlobals "plus" = some (some (.ref f_plus)))
    (l_plus : K.lookup f_plus = some ⟨oc_plus, od_plus, .func (PySem.W.fnOf "plus" "plus" (defArgs s_plus) (defBody s_plus) (defScope s_plus) .none kV_plus dc_plus pm_plus an_plus cd_plus ct_plus), sl_plus⟩)
    (c_plus : PySem.W.codeIn K cd_plus "plus" = true)
    (k_plus : PySem.W.keepIn K (.ref f_plus) = true)
    {od_size_of an_size_of : Option Addr} {sl_size_of : Array (Option Value)} {oc_size_of kV_size_of dc_size_of pm_size_of cd_size_of ct_size_of : Value}
    (a_size_of : PySem.W.nsIn K mainGlobals "size_of" = some (some (.ref f_size_of)))
    (l_size_of : K.lookup f_size_of = some ⟨oc_size_of, od_size_of, .func (PySem.W.fnOf "size_of" "size_of" (defArgs s_size_of) (defBody s_size_of) (defScope s_size_of) .none kV_size_of dc_size_of pm_size_of an_size_of cd_size_of ct_size_of), sl_size_of⟩)
    (c_size_of : PySem.W.codeIn K cd_size_of "size_of" = true)
    (k_size_of : PySem.W.keepIn K (.ref f_size_of) = true)
    {od_under an_under : Option Addr} {sl_under : Array (Option Value)} {oc_under kV_under dc_under pm_under cd_under ct_under : Value}
    (a_under : PySem.W.nsIn K mainGlobals "under" = some (some (.ref f_under)))
    (l_under : K.lookup f_under = some ⟨oc_under, od_under, .func (PySem.W.fnOf "under" "under" (defArgs s_under) (defBody s_under) (defScope s_under) .none kV_under dc_under pm_under an_under cd_under ct_under), sl_under⟩)
    (c_under : PySem.W.codeIn K cd_under "under" = true)
    (k_under : PySem.W.keepIn K (.ref f_under) = true)
    {od_is_place an_is_place : Option Addr} {sl_is_place : Array (Option Value)} {oc_is_place kV_is_place dc_is_place pm_is_place cd_is_place ct_is_place : Value}
    (a_is_place : PySem.W.nsIn K mainGlobals "is_place" = some (some (.ref f_is_place)))
    (l_is_place : K.lookup f_is_place = some ⟨oc_is_place, od_is_place, .func (PySem.W.fnOf "is_place" "is_place" (defArgs s_is_place) (defBody s_is_place) (defScope s_is_place) .none kV_is_place dc_is_place pm_is_place an_is_place cd_is_place ct_is_place), sl_is_place⟩)
    (c_is_place : PySem.W.codeIn K cd_is_place "is_place" = true)
    (k_is_place : PySem.W.keepIn K (.ref f_is_place) = true)
    {od_is_fractions an_is_fractions : Option Addr} {sl_is_fractions : Array (Option Value)} {oc_is_fractions kV_is_fractions dc_is_fractions pm_is_fractions cd_is_fractions ct_is_fractions : Value}
    (a_is_fractions : PySem.W.nsIn K mainGlobals "is_fractions" = some (some (.ref f_is_fractions)))
    (l_is_fractions : K.lookup f_is_fractions = some ⟨oc_is_fractions, od_is_fractions, .func (PySem.W.fnOf "is_fractions" "is_fractions" (defArgs s_is_fractions) (defBody s_is_fractions) (defScope s_is_fractions) .none kV_is_fractions dc_is_fractions pm_is_fractions an_is_fractions cd_is_fractions ct_is_fractions), sl_is_fractions⟩)
    (c_is_fractions : PySem.W.codeIn K cd_is_fractions "is_fractions" = true)
    (k_is_fractions : PySem.W.keepIn K (.ref f_is_fractions) = true)
    {od_common_bottom an_common_bottom : Option Addr} {sl_common_bottom : Array (Option Value)} {oc_common_bottom kV_common_bottom dc_common_bottom pm_common_bottom cd_common_bottom ct_common_bottom : Value}
    (a_common_bottom : PySem.W.nsIn K mainGlobals "common_bottom" = some (some (.ref f_common_bottom)))
    (l_common_bottom : K.lookup f_common_bottom = some ⟨oc_common_bottom, od_common_bottom, .func (PySem.W.fnOf "common_bottom" "common_bottom" (defArgs s_common_bottom) (defBody s_common_bottom) (defScope s_common_bottom) .none kV_common_bottom dc_common_bottom pm_common_bottom an_common_bottom cd_common_bottom ct_common_bottom), sl_common_bottom⟩)
    (c_common_bottom : PySem.W.codeIn K cd_common_bottom "common_bottom" = true)
    (k_common_bottom : PySem.W.keepIn K (.ref f_common_bottom) = true)
    {od_cleared an_cleared : Option Addr} {sl_cleared : Array (Option Value)} {oc_cleared kV_cleared dc_cleared pm_cleared cd_cleared ct_cleared : Value}
    (a_cleared : PySem.W.nsIn K mainGlobals "cleared" = some (some (.ref f_cleared)))
    (l_cleared : K.lookup f_cleared = some ⟨oc_cleared, od_cleared, .func (PySem.W.fnOf "cleared" "cleared" (defArgs s_cleared) (defBody s_cleared) (defScope s_cleared) .none kV_cleared dc_cleared pm_cleared an_cleared cd_cleared ct_cleared), sl_cleared⟩)
    (c_cleared : PySem.W.codeIn K cd_cleared "cleared" = true)
    (k_cleared : PySem.W.keepIn K (.ref f_cleared) = true)
    {od_is_wanted an_is_wanted : Option Addr} {sl_is_wanted : Array (Option Value)} {oc_is_wanted kV_is_wanted dc_is_wanted pm_is_wanted cd_is_wanted ct_is_wanted : Value}
    (a_is_wanted : PySem.W.nsIn K mainGlobals "is_wanted" = some (some (.ref f_is_wanted)))
    (l_is_wanted : K.lookup f_is_wanted = some ⟨oc_is_wanted, od_is_wanted, .func (PySem.W.fnOf "is_wanted" "is_wanted" (defArgs s_is_wanted) (defBody s_is_wanted) (defScope s_is_wanted) .none kV_is_wanted dc_is_wanted pm_is_wanted an_is_wanted cd_is_wanted ct_is_wanted), sl_is_wanted⟩)
    (c_is_wanted : PySem.W.codeIn K cd_is_wanted "is_wanted" = true)
    (k_is_wanted : PySem.W.keepIn K (.ref f_is_wanted) = true)
    {od_is_still_pair an_is_still_pair : Option Addr} {sl_is_still_pair : Array (Option Value)} {oc_is_still_pair kV_is_still_pair dc_is_still_pair pm_is_still_pair cd_is_still_pair ct_is_still_pair : Value}
    (a_is_still_pair : PySem.W.nsIn K mainGlobals "is_still_pair" = some (some (.ref f_is_still_pair)))
    (l_is_still_pair : K.lookup f_is_still_pair = some ⟨oc_is_still_pair, od_is_still_pair, .func (PySem.W.fnOf "is_still_pair" "is_still_pair" (defArgs s_is_still_pair) (defBody s_is_still_pair) (defScope s_is_still_pair) .none kV_is_still_pair dc_is_still_pair pm_is_still_pair an_is_still_pair cd_is_still_pair ct_is_still_pair), sl_is_still_pair⟩)
    (c_is_still_pair : PySem.W.codeIn K cd_is_still_pair "is_still_pair" = true)
    (k_is_still_pair : PySem.W.keepIn K (.ref f_is_still_pair) = true)
    {od_numbers_near an_numbers_near : Option Addr} {sl_numbers_near : Array (Option Value)} {oc_numbers_near kV_numbers_near dc_numbers_near pm_numbers_near cd_numbers_near ct_numbers_near : Value}
    (a_numbers_near : PySem.W.nsIn K mainGlobals "numbers_near" = some (some (.ref f_numbers_near)))
    (l_numbers_near : K.lookup f_numbers_near = some ⟨oc_numbers_near, od_numbers_near, .func (PySem.W.fnOf "numbers_near" "numbers_near" (defArgs s_numbers_near) (defBody s_numbers_near) (defScope s_numbers_near) .none kV_numbers_near dc_numbers_near pm_numbers_near an_numbers_near cd_numbers_near ct_numbers_near), sl_numbers_near⟩)
    (c_numbers_near : PySem.W.codeIn K cd_numbers_near "numbers_near" = true)
    (k_numbers_near : PySem.W.keepIn K (.ref f_numbers_near) = true)
    {od_far_off an_far_off : Option Addr} {sl_far_off : Array (Option Value)} {oc_far_off kV_far_off dc_far_off pm_far_off cd_far_off ct_far_off : Value}
    (a_far_off : PySem.W.nsIn K mainGlobals "far_off" = some (some (.ref f_far_off)))
    (l_far_off : K.lookup f_far_off = some ⟨oc_far_off, od_far_off, .func (PySem.W.fnOf "far_off" "far_off" (defArgs s_far_off) (defBody s_far_off) (defScope s_far_off) .none kV_far_off dc_far_off pm_far_off an_far_off cd_far_off ct_far_off), sl_far_off⟩)
    (c_far_off : PySem.W.codeIn K cd_far_off "far_off" = true)
    (k_far_off : PySem.W.keepIn K (.ref f_far_off) = true)
    {od_nearest_still an_nearest_still : Option Addr} {sl_nearest_still : Array (Option Value)} {oc_nearest_still kV_nearest_still dc_nearest_still pm_nearest_still cd_nearest_still ct_nearest_still : Value}
    (a_nearest_still : PySem.W.nsIn K mainGlobals "nearest_still" = some (some (.ref f_nearest_still)))
    (l_nearest_still : K.lookup f_nearest_still = some ⟨oc_nearest_still, od_nearest_still, .func (PySem.W.fnOf "nearest_still" "nearest_still" (defArgs s_nearest_still) (defBody s_nearest_still) (defScope s_nearest_still) .none kV_nearest_still dc_nearest_still pm_nearest_still an_nearest_still cd_nearest_still ct_nearest_still), sl_nearest_still⟩)
    (c_nearest_still : PySem.W.codeIn K cd_nearest_still "nearest_still" = true)
    (k_nearest_still : PySem.W.keepIn K (.ref f_nearest_still) = true)
    {od_is_bottom an_is_bottom : Option Addr} {sl_is_bottom : Array (Option Value)} {oc_is_bottom kV_is_bottom dc_is_bottom pm_is_bottom cd_is_bottom ct_is_bottom : Value}
    (a_is_bottom : PySem.W.nsIn K mainGlobals "is_bottom" = some (some (.ref f_is_bottom)))
    (l_is_bottom : K.lookup f_is_bottom = some ⟨oc_is_bottom, od_is_bottom, .func (PySem.W.fnOf "is_bottom" "is_bottom" (defArgs s_is_bottom) (defBody s_is_bottom) (defScope s_is_bottom) .none kV_is_bottom dc_is_bottom pm_is_bottom an_is_bottom cd_is_bottom ct_is_bottom), sl_is_bottom⟩)
    (c_is_bottom : PySem.W.codeIn K cd_is_bottom "is_bottom" = true)
    (k_is_bottom : PySem.W.keepIn K (.ref f_is_bottom) = true)
    {od_check_bottom an_check_bottom : Option Addr} {sl_check_bottom : Array (Option Value)} {oc_check_bottom kV_check_bottom dc_check_bottom pm_check_bottom cd_check_bottom ct_check_bottom : Value}
    (a_check_bottom : PySem.W.nsIn K mainGlobals "check_bottom" = some (some (.ref f_check_bottom)))
    (l_check_bottom : K.lookup f_check_bottom = some ⟨oc_check_bottom, od_check_bottom, .func (PySem.W.fnOf "check_bottom" "check_bottom" (defArgs s_check_bottom) (defBody s_check_bottom) (defScope s_check_bottom) .none kV_check_bottom dc_check_bottom pm_check_bottom an_check_bottom cd_check_bottom ct_check_bottom), sl_check_bottom⟩)
    (c_check_bottom : PySem.W.codeIn K cd_check_bottom "check_bottom" = true)
    (k_check_bottom : PySem.W.keepIn K (.ref f_check_bottom) = true)
    {od_is_long an_is_long : Option Addr} {sl_is_long : Array (Option Value)} {oc_is_long kV_is_long dc_is_long pm_is_long cd_is_long ct_is_long : Value}
    (a_is_long : PySem.W.nsIn K mainGlobals "is_long" = some (some (.ref f_is_long)))
    (l_is_long : K.lookup f_is_long = some ⟨oc_is_long, od_is_long, .func (PySem.W.fnOf "is_long" "is_long" (defArgs s_is_long) (defBody s_is_long) (defScope s_is_long) .none kV_is_long dc_is_long pm_is_long an_is_long cd_is_long ct_is_long), sl_is_long⟩)
    (c_is_long : PySem.W.codeIn K cd_is_long "is_long" = true)
    (k_is_long : PySem.W.keepIn K (.ref f_is_long) = true)
    {od_shortened an_shortened : Option Addr} {sl_shortened : Array (Option Value)} {oc_shortened kV_shortened dc_shortened pm_shortened cd_shortened ct_shortened : Value}
    (a_shortened : PySem.W.nsIn K mainGlobals "shortened" = some (some (.ref f_shortened)))
    (l_shortened : K.lookup f_shortened = some ⟨oc_shortened, od_shortened, .func (PySem.W.fnOf "shortened" "shortened" (defArgs s_shortened) (defBody s_shortened) (defScope s_shortened) .none kV_shortened dc_shortened pm_shortened an_shortened cd_shortened ct_shortened), sl_shortened⟩)
    (c_shortened : PySem.W.codeIn K cd_shortened "shortened" = true)
    (k_shortened : PySem.W.keepIn K (.ref f_shortened) = true)
    {od_numbers_stepped_down an_numbers_stepped_down : Option Addr} {sl_numbers_stepped_down : Array (Option Value)} {oc_numbers_stepped_down kV_numbers_stepped_down dc_numbers_stepped_down pm_numbers_stepped_down cd_numbers_stepped_down ct_numbers_stepped_down : Value}
    (a_numbers_stepped_down : PySem.W.nsIn K mainGlobals "numbers_stepped_down" = some (some (.ref f_numbers_stepped_down)))
    (l_numbers_stepped_down : K.lookup f_numbers_stepped_down = some ⟨oc_numbers_stepped_down, od_numbers_stepped_down, .func (PySem.W.fnOf "numbers_stepped_down" "numbers_stepped_down" (defArgs s_numbers_stepped_down) (defBody s_numbers_stepped_down) (defScope s_numbers_stepped_down) .none kV_numbers_stepped_down dc_numbers_stepped_down pm_numbers_stepped_down an_numbers_stepped_down cd_numbers_stepped_down ct_numbers_stepped_down), sl_numbers_stepped_down⟩)
    (c_numbers_stepped_down : PySem.W.codeIn K cd_numbers_stepped_down "numbers_stepped_down" = true)
    (k_numbers_stepped_down : PySem.W.keepIn K (.ref f_numbers_stepped_down) = true)
    {od_ladder_by_numbers an_ladder_by_numbers : Option Addr} {sl_ladder_by_numbers : Array (Option Value)} {oc_ladder_by_numbers kV_ladder_by_numbers dc_ladder_by_numbers pm_ladder_by_numbers cd_ladder_by_numbers ct_ladder_by_numbers : Value}
    (a_ladder_by_numbers : PySem.W.nsIn K mainGlobals "ladder_by_numbers" = some (some (.ref f_ladder_by_numbers)))
    (l_ladder_by_numbers : K.lookup f_ladder_by_numbers = some ⟨oc_ladder_by_numbers, od_ladder_by_numbers, .func (PySem.W.fnOf "ladder_by_numbers" "ladder_by_numbers" (defArgs s_ladder_by_numbers) (defBody s_ladder_by_numbers) (defScope s_ladder_by_numbers) .none kV_ladder_by_numbers dc_ladder_by_numbers pm_ladder_by_numbers an_ladder_by_numbers cd_ladder_by_numbers ct_ladder_by_numbers), sl_ladder_by_numbers⟩)
    (c_ladder_by_numbers : PySem.W.codeIn K cd_ladder_by_numbers "ladder_by_numbers" = true)
    (k_ladder_by_numbers : PySem.W.keepIn K (.ref f_ladder_by_numbers) = true)
    {od_ladder an_ladder : Option Addr} {sl_ladder : Array (Option Value)} {oc_ladder kV_ladder dc_ladder pm_ladder cd_ladder ct_ladder : Value}
    (a_ladder : PySem.W.nsIn K mainGlobals "ladder" = some (some (.ref f_ladder)))
    (l_ladder : K.lookup f_ladder = some ⟨oc_ladder, od_ladder, .func (PySem.W.fnOf "ladder" "ladder" (defArgs s_ladder) (defBody s_ladder) (defScope s_ladder) .none kV_ladder dc_ladder pm_ladder an_ladder cd_ladder ct_ladder), sl_ladder⟩)
    (c_ladder : PySem.W.codeIn K cd_ladder "ladder" = true)
    (k_ladder : PySem.W.keepIn K (.ref f_ladder) = true)
    {od__law_cell_at an__law_cell_at : Option Addr} {sl__law_cell_at : Array (Option Value)} {oc__law_cell_at kV__law_cell_at dc__law_cell_at pm__law_cell_at cd__law_cell_at ct__law_cell_at : Value}
    (a__law_cell_at : PySem.W.nsIn K mainGlobals "_law_cell_at" = some (some (.ref f__law_cell_at)))
    (l__law_cell_at : K.lookup f__law_cell_at = some ⟨oc__law_cell_at, od__law_cell_at, .func (PySem.W.fnOf "_law_cell_at" "_law_cell_at" (defArgs s__law_cell_at) (defBody s__law_cell_at) (defScope s__law_cell_at) .none kV__law_cell_at dc__law_cell_at pm__law_cell_at an__law_cell_at cd__law_cell_at ct__law_cell_at), sl__law_cell_at⟩)
    (c__law_cell_at : PySem.W.codeIn K cd__law_cell_at "_law_cell_at" = true)
    (k__law_cell_at : PySem.W.keepIn K (.ref f__law_cell_at) = true)
    {od__law_well an__law_well : Option Addr} {sl__law_well : Array (Option Value)} {oc__law_well kV__law_well dc__law_well pm__law_well cd__law_well ct__law_well : Value}
    (a__law_well : PySem.W.nsIn K mainGlobals "_law_well" = some (some (.ref f__law_well)))
    (l__law_well : K.lookup f__law_well = some ⟨oc__law_well, od__law_well, .func (PySem.W.fnOf "_law_well" "_law_well" (defArgs s__law_well) (defBody s__law_well) (defScope s__law_well) .none kV__law_well dc__law_well pm__law_well an__law_well cd__law_well ct__law_well), sl__law_well⟩)
    (c__law_well : PySem.W.codeIn K cd__law_well "_law_well" = true)
    (k__law_well : PySem.W.keepIn K (.ref f__law_well) = true)
    {od__law_draw an__law_draw : Option Addr} {sl__law_draw : Array (Option Value)} {oc__law_draw kV__law_draw dc__law_draw pm__law_draw cd__law_draw ct__law_draw : Value}
    (a__law_draw : PySem.W.nsIn K mainGlobals "_law_draw" = some (some (.ref f__law_draw)))
    (l__law_draw : K.lookup f__law_draw = some ⟨oc__law_draw, od__law_draw, .func (PySem.W.fnOf "_law_draw" "_law_draw" (defArgs s__law_draw) (defBody s__law_draw) (defScope s__law_draw) .none kV__law_draw dc__law_draw pm__law_draw an__law_draw cd__law_draw ct__law_draw), sl__law_draw⟩)
    (c__law_draw : PySem.W.codeIn K cd__law_draw "_law_draw" = true)
    (k__law_draw : PySem.W.keepIn K (.ref f__law_draw) = true)
    {od__law_low an__law_low : Option Addr} {sl__law_low : Array (Option Value)} {oc__law_low kV__law_low dc__law_low pm__law_low cd__law_low ct__law_low : Value}
    (a__law_low : PySem.W.nsIn K mainGlobals "_law_low" = some (some (.ref f__law_low)))
    (l__law_low : K.lookup f__law_low = some ⟨oc__law_low, od__law_low, .func (PySem.W.fnOf "_law_low" "_law_low" (defArgs s__law_low) (defBody s__law_low) (defScope s__law_low) .none kV__law_low dc__law_low pm__law_low an__law_low cd__law_low ct__law_low), sl__law_low⟩)
    (c__law_low : PySem.W.codeIn K cd__law_low "_law_low" = true)
    (k__law_low : PySem.W.keepIn K (.ref f__law_low) = true)
    {od__law_in an__law_in : Option Addr} {sl__law_in : Array (Option Value)} {oc__law_in kV__law_in dc__law_in pm__law_in cd__law_in ct__law_in : Value}
    (a__law_in : PySem.W.nsIn K mainGlobals "_law_in" = some (some (.ref f__law_in)))
    (l__law_in : K.lookup f__law_in = some ⟨oc__law_in, od__law_in, .func (PySem.W.fnOf "_law_in" "_law_in" (defArgs s__law_in) (defBody s__law_in) (defScope s__law_in) .none kV__law_in dc__law_in pm__law_in an__law_in cd__law_in ct__law_in), sl__law_in⟩)
    (c__law_in : PySem.W.codeIn K cd__law_in "_law_in" = true)
    (k__law_in : PySem.W.keepIn K (.ref f__law_in) = true)
    {od__law_still an__law_still : Option Addr} {sl__law_still : Array (Option Value)} {oc__law_still kV__law_still dc__law_still pm__law_still cd__law_still ct__law_still : Value}
    (a__law_still : PySem.W.nsIn K mainGlobals "_law_still" = some (some (.ref f__law_still)))
    (l__law_still : K.lookup f__law_still = some ⟨oc__law_still, od__law_still, .func (PySem.W.fnOf "_law_still" "_law_still" (defArgs s__law_still) (defBody s__law_still) (defScope s__law_still) .none kV__law_still dc__law_still pm__law_still an__law_still cd__law_still ct__law_still), sl__law_still⟩)
    (c__law_still : PySem.W.codeIn K cd__law_still "_law_still" = true)
    (k__law_still : PySem.W.keepIn K (.ref f__law_still) = true)
    {od__law_near an__law_near : Option Addr} {sl__law_near : Array (Option Value)} {oc__law_near kV__law_near dc__law_near pm__law_near cd__law_near ct__law_near : Value}
    (a__law_near : PySem.W.nsIn K mainGlobals "_law_near" = some (some (.ref f__law_near)))
    (l__law_near : K.lookup f__law_near = some ⟨oc__law_near, od__law_near, .func (PySem.W.fnOf "_law_near" "_law_near" (defArgs s__law_near) (defBody s__law_near) (defScope s__law_near) .none kV__law_near dc__law_near pm__law_near an__law_near cd__law_near ct__law_near), sl__law_near⟩)
    (c__law_near : PySem.W.codeIn K cd__law_near "_law_near" = true)
    (k__law_near : PySem.W.keepIn K (.ref f__law_near) = true)
    {od_law an_law : Option Addr} {sl_law : Array (Option Value)} {oc_law kV_law dc_law pm_law cd_law ct_law : Value}
    (a_law : PySem.W.nsIn K mainGlobals "law" = some (some (.ref f_law)))
    (l_law : K.lookup f_law = some ⟨oc_law, od_law, .func (PySem.W.fnOf "law" "law" (defArgs s_law) (defBody s_law) (defScope s_law) .none kV_law dc_law pm_law an_law cd_law ct_law), sl_law⟩)
    (c_law : PySem.W.codeIn K cd_law "law" = true)
    (k_law : PySem.W.keepIn K (.ref f_law) = true)
    {tk_FARTHEST_STEPS : Tok}
    (g_FARTHEST_STEPS : PySem.W.nsIn K mainGlobals "FARTHEST_STEPS" = some (some (.int 2 tk_FARTHEST_STEPS)))
    {tk_GREATEST_POINT : Tok}
    (g_GREATEST_POINT : PySem.W.nsIn K mainGlobals "GREATEST_POINT" = some (some (.int 20 tk_GREATEST_POINT)))
    {tk_LONGEST_COMMON : Tok}
    (g_LONGEST_COMMON : PySem.W.nsIn K mainGlobals "LONGEST_COMMON" = some (some (.int 40000 tk_LONGEST_COMMON)))
    {tt_ONE : Option Addr} {tn_ONE : Nat} {ts_ONE : Array (Option Value)} {tk_ONE0 tk_ONE1 : Tok}
    (g_ONE : PySem.W.nsIn K mainGlobals "ONE" = some (some (.ref A_ONE)))
    (t_ONE : K.lookup A_ONE = some ⟨.type "tuple", tt_ONE, .seq [Value.int 1 tk_ONE0, Value.int 1 tk_ONE1].toArray tn_ONE, ts_ONE⟩)
    {tt_NOUGHT : Option Addr} {tn_NOUGHT : Nat} {ts_NOUGHT : Array (Option Value)} {tk_NOUGHT0 tk_NOUGHT1 : Tok}
    (g_NOUGHT : PySem.W.nsIn K mainGlobals "NOUGHT" = some (some (.ref A_NOUGHT)))
    (t_NOUGHT : K.lookup A_NOUGHT = some ⟨.type "tuple", tt_NOUGHT, .seq [Value.int 0 tk_NOUGHT0, Value.int 1 tk_NOUGHT1].toArray tn_NOUGHT, ts_NOUGHT⟩)
    (z_isinstance : PySem.W.nsIn K mainGlobals "isinstance" = some none)
    (z_int : PySem.W.nsIn K mainGlobals "int" = some none)
    (z_bool : PySem.W.nsIn K mainGlobals "bool" = some none)
    (z_tuple : PySem.W.nsIn K mainGlobals "tuple" = some none)
    (z_len : PySem.W.nsIn K mainGlobals "len" = some none)
    (z_abs : PySem.W.nsIn K mainGlobals "abs" = some none)
    (z_list : PySem.W.nsIn K mainGlobals "list" = some none)
    (z_all : PySem.W.nsIn K mainGlobals "all" = some none)
    (z_range : PySem.W.nsIn K mainGlobals "range" = some none)
    (z_max : PySem.W.nsIn K mainGlobals "max" = some none)
    (z_sorted : PySem.W.nsIn K mainGlobals "sorted" = some none)
    (z_zip : PySem.W.nsIn K mainGlobals "zip" = some none) :
    ∃ fd : FuncData, (∀ (s : Shared) (v : Value), BindsTo s fd ⟨[v], []⟩ [("_law_script", v)]) ∧ ∀ base : Heap, K.In base → base.Ns mainGlobals mg → FnOk l.prog w K mg base CX0 8 fa fd ["_law_script"] (spLaw K) := by
  have F_is_whole := fun_mk (st := s_is_whole) l_is_whole c_is_whole k_is_whole
  have b_is_whole := F_is_whole.binds (ps := ["thing"]) fun _ _ _ _ _ _ us hl => match us, hl with | [_], _ => rfl
  have F_is_fraction := fun_mk (st := s_is_fraction) l_is_fraction c_is_fraction k_is_fraction
  have b_is_fraction := F_is_fraction.binds (ps := ["thing"]) fun _ _ _ _ _ _ us hl => match us, hl with | [_], _ => rfl
  have F_shared_divisor := fun_mk (st := s_shared_divisor) l_shared_divisor c_shared_divisor k_shared_divisor
  have b_shared_divisor := F_shared_divisor.binds (ps := ["top", "bottom"]) fun _ _ _ _ _ _ us hl => match us, hl with | [_, _], _ => rfl
  have F_lowest := fun_mk (st := s_lowest) l_lowest c_lowest k_lowest
  have b_lowest := F_lowest.binds (ps := ["top", "bottom"]) fun _ _ _ _ _ _ us hl => match us, hl with | [_, _], _ => rfl
  have F_plus := fun_mk (st := s_plus) l_plus c_plus k_plus
  have b_plus := F_plus.binds (ps := ["one", "other"]) fun _ _ _ _ _ _ us hl => match us, hl with | [_, _], _ => rfl
  have F_size_of := fun_mk (st := s_size_of) l_size_of c_size_of k_size_of
  have b_size_of := F_size_of.binds (ps := ["one"]) fun _ _ _ _ _ _ us hl => match us, hl with | [_], _ => rfl
  have F_under := fun_mk (st := s_under) l_under c_under k_under
  have b_under := F_under.binds (ps := ["one", "other"]) fun _ _ _ _ _ _ us hl => match us, hl with | [_, _], _ => rfl
  have F_is_place := fun_mk (st := s_is_place) l_is_place c_is_place k_is_place
  have b_is_place := F_is_place.binds (ps := ["thing", "many"]) fun _ _ _ _ _ _ us hl => match us, hl with | [_, _], _ => rfl
  have F_is_fractions := fun_mk (st := s_is_fractions) l_is_fractions c_is_fractions k_is_fractions
  have b_is_fractions := F_is_fractions.binds (ps := ["thing"]) fun _ _ _ _ _ _ us hl => match us, hl with | [_], _ => rfl
  have F_common_bottom := fun_mk (st := s_common_bottom) l_common_bottom c_common_bottom k_common_bottom
  have b_common_bottom := F_common_bottom.binds (ps := ["pairs"]) fun _ _ _ _ _ _ us hl => match us, hl with | [_], _ => rfl
  have F_cleared := fun_mk (st := s_cleared) l_cleared c_cleared k_cleared
  have b_cleared := F_cleared.binds (ps := ["pairs"]) fun _ _ _ _ _ _ us hl => match us, hl with | [_], _ => rfl
  have F_is_wanted := fun_mk (st := s_is_wanted) l_is_wanted c_is_wanted k_is_wanted
  have b_is_wanted := F_is_wanted.binds (ps := ["one", "two"]) fun _ _ _ _ _ _ us hl => match us, hl with | [_, _], _ => rfl
  have F_is_still_pair := fun_mk (st := s_is_still_pair) l_is_still_pair c_is_still_pair k_is_still_pair
  have b_is_still_pair := F_is_still_pair.binds (ps := ["one", "two", "end"]) fun _ _ _ _ _ _ us hl => match us, hl with | [_, _, _], _ => rfl
  have F_numbers_near := fun_mk (st := s_numbers_near) l_numbers_near c_numbers_near k_numbers_near
  have b_numbers_near := F_numbers_near.binds (ps := ["value", "end"]) fun _ _ _ _ _ _ us hl => match us, hl with | [_, _], _ => rfl
  have F_far_off := fun_mk (st := s_far_off) l_far_off c_far_off k_far_off
  have b_far_off := F_far_off.binds (ps := ["number", "value", "end", "bottom"]) fun _ _ _ _ _ _ us hl => match us, hl with | [_, _, _, _], _ => rfl
  have F_nearest_still := fun_mk (st := s_nearest_still) l_nearest_still c_nearest_still k_nearest_still
  have b_nearest_still := F_nearest_still.binds (ps := ["one", "two", "point"]) fun _ _ _ _ _ _ us hl => match us, hl with | [_, _, _], _ => rfl
  have F_is_bottom := fun_mk (st := s_is_bottom) l_is_bottom c_is_bottom k_is_bottom
  have b_is_bottom := F_is_bottom.binds (ps := ["thing"]) fun _ _ _ _ _ _ us hl => match us, hl with | [_], _ => rfl
  have F_check_bottom := fun_mk (st := s_check_bottom) l_check_bottom c_check_bottom k_check_bottom
  have b_check_bottom := F_check_bottom.binds (ps := ["thing"]) fun _ _ _ _ _ _ us hl => match us, hl with | [_], _ => rfl
  have F_is_long := fun_mk (st := s_is_long) l_is_long c_is_long k_is_long
  have b_is_long := F_is_long.binds (ps := ["common"]) fun _ _ _ _ _ _ us hl => match us, hl with | [_], _ => rfl
  have F_shortened := fun_mk (st := s_shortened) l_shortened c_shortened k_shortened
  have b_shortened := F_shortened.binds (ps := ["numbers"]) fun _ _ _ _ _ _ us hl => match us, hl with | [_], _ => rfl
  have F_numbers_stepped_down := fun_mk (st := s_numbers_stepped_down) l_numbers_stepped_down c_numbers_stepped_down k_numbers_stepped_down
  have b_numbers_stepped_down := F_numbers_stepped_down.binds (ps := ["numbers"]) fun _ _ _ _ _ _ us hl => match us, hl with | [_], _ => rfl
  have F_ladder_by_numbers := fun_mk (st := s_ladder_by_numbers) l_ladder_by_numbers c_ladder_by_numbers k_ladder_by_numbers
  have b_ladder_by_numbers := F_ladder_by_numbers.binds (ps := ["numbers"]) fun _ _ _ _ _ _ us hl => match us, hl with | [_], _ => rfl
  have F_ladder := fun_mk (st := s_ladder) l_ladder c_ladder k_ladder
  have b_ladder := F_ladder.binds (ps := ["bottom"]) fun _ _ _ _ _ _ us hl => match us, hl with | [_], _ => rfl
  have F__law_cell_at := fun_mk (st := s__law_cell_at) l__law_cell_at c__law_cell_at k__law_cell_at
  have b__law_cell_at := F__law_cell_at.binds (ps := ["_law_script", "_law_k"]) fun _ _ _ _ _ _ us hl => match us, hl with | [_, _], _ => rfl
  have F__law_well := fun_mk (st := s__law_well) l__law_well c__law_well k__law_well
  have b__law_well := F__law_well.binds (ps := ["_law_cell"]) fun _ _ _ _ _ _ us hl => match us, hl with | [_], _ => rfl
  have F__law_draw := fun_mk (st := s__law_draw) l__law_draw c__law_draw k__law_draw
  have b__law_draw := F__law_draw.binds (ps := ["_law_well_here", "_law_many"]) fun _ _ _ _ _ _ us hl => match us, hl with | [_, _], _ => rfl
  have F__law_low := fun_mk (st := s__law_low) l__law_low c__law_low k__law_low
  have b__law_low := F__law_low.binds (ps := ["_law_top", "_law_bottom"]) fun _ _ _ _ _ _ us hl => match us, hl with | [_, _], _ => rfl
  have F__law_in := fun_mk (st := s__law_in) l__law_in c__law_in k__law_in
  have b__law_in := F__law_in.binds (ps := ["_law_pair", "_law_scale"]) fun _ _ _ _ _ _ us hl => match us, hl with | [_, _], _ => rfl
  have F__law_still := fun_mk (st := s__law_still) l__law_still c__law_still k__law_still
  have b__law_still := F__law_still.binds (ps := ["_law_pair", "_law_scale"]) fun _ _ _ _ _ _ us hl => match us, hl with | [_, _], _ => rfl
  have F__law_near := fun_mk (st := s__law_near) l__law_near c__law_near k__law_near
  have b__law_near := F__law_near.binds (ps := ["_law_well_here", "_law_scale"]) fun _ _ _ _ _ _ us hl => match us, hl with | [_, _], _ => rfl
  have F_law := fun_mk (st := s_law) l_law c_law k_law
  have b_law := F_law.binds (ps := ["_law_script"]) fun _ _ _ _ _ _ us hl => match us, hl with | [_], _ => rfl
  have T_ONE : ∀ H, SqT K H A_ONE [V.int 1, V.int 1] := fun H => .inr ⟨_, _, _, t_ONE, rfl, rfl, (by show 2 ≤ sizeLine; decide), (.cons ⟨_, rfl⟩ (.cons ⟨_, rfl⟩ .nil))⟩
  have T_NOUGHT : ∀ H, SqT K H A_NOUGHT [V.int 0, V.int 1] := fun H => .inr ⟨_, _, _, t_NOUGHT, rfl, rfl, (by show 2 ≤ sizeLine; decide), (.cons ⟨_, rfl⟩ (.cons ⟨_, rfl⟩ .nil))⟩
  have gO := PySem.W.mg_of X G g_ONE
  have gN := PySem.W.mg_of X G g_NOUGHT
  have gF := PySem.W.mg_of X G g_FARTHEST_STEPS
  have gP := PySem.W.mg_of X G g_GREATEST_POINT
  have gL := PySem.W.mg_of X G g_LONGEST_COMMON
  have z : Zs mg := ⟨PySem.W.mg_none_of X G z_isinstance, PySem.W.mg_none_of X G z_int, PySem.W.mg_none_of X G z_bool, PySem.W.mg_none_of X G z_tuple, PySem.W.mg_none_of X G z_len, PySem.W.mg_none_of X G z_abs, PySem.W.mg_none_of X G z_list, PySem.W.mg_none_of X G z_all, PySem.W.mg_none_of X G z_range, PySem.W.mg_none_of X G z_max, PySem.W.mg_none_of X G z_sorted, PySem.W.mg_none_of X G z_zip⟩
  have e := hfa.symm.trans (PySem.W.mg_of X G a_law)
  cases e
  refine ⟨PySem.W.fnOf "law" "law" (defArgs s_law) (defBody s_law) (defScope s_law) .none kV_law dc_law pm_law an_law cd_law ct_law, fun s v => .of_eq rfl, fun base _ _ => ?_⟩
  have c_is_whole : Cal l.prog w K mg base 1 "is_whole" ["thing"] _ := ⟨f_is_whole, _, PySem.W.mg_of X G a_is_whole, k_is_whole, b_is_whole, ok_is_whole (k := 0) F_is_whole z⟩
  have c_shared_divisor : Cal l.prog w K mg base 1 "shared_divisor" ["top", "bottom"] _ := ⟨f_shared_divisor, _, PySem.W.mg_of X G a_shared_divisor, k_shared_divisor, b_shared_divisor, ok_shared_divisor (k := 0) F_shared_divisor z⟩
  have c_lowest : Cal l.prog w K mg base 2 "lowest" ["top", "bottom"] _ := ⟨f_lowest, _, PySem.W.mg_of X G a_lowest, k_lowest, b_lowest, ok_lowest F_lowest c_shared_divisor⟩
  have c_plus : Cal l.prog w K mg base 3 "plus" ["one", "other"] _ := ⟨f_plus, _, PySem.W.mg_of X G a_plus, k_plus, b_plus, ok_plus F_plus c_lowest⟩
  have c_size_of : Cal l.prog w K mg base 1 "size_of" ["one"] _ := ⟨f_size_of, _, PySem.W.mg_of X G a_size_of, k_size_of, b_size_of, ok_size_of (k := 0) F_size_of z⟩
  have c_under : Cal l.prog w K mg base 1 "under" ["one", "other"] _ := ⟨f_under, _, PySem.W.mg_of X G a_under, k_under, b_under, ok_under (k := 0) F_under⟩
  have c_is_fraction : Cal l.prog w K mg base 2 "is_fraction" ["thing"] _ := ⟨f_is_fraction, _, PySem.W.mg_of X G a_is_fraction, k_is_fraction, b_is_fraction, ok_is_fraction F_is_fraction z c_is_whole c_shared_divisor⟩
  have c_is_place : Cal l.prog w K mg base 2 "is_place" ["thing", "many"] _ := ⟨f_is_place, _, PySem.W.mg_of X G a_is_place, k_is_place, b_is_place, ok_is_place F_is_place c_is_whole⟩
  have c_is_wanted : Cal l.prog w K mg base 4 "is_wanted" ["one", "two"] _ := ⟨f_is_wanted, _, PySem.W.mg_of X G a_is_wanted, k_is_wanted, b_is_wanted, ok_is_wanted gO T_ONE F_is_wanted c_is_fraction c_under c_size_of c_plus⟩
  have c_is_still_pair : Cal l.prog w K mg base 1 "is_still_pair" ["one", "two", "end"] _ := ⟨f_is_still_pair, _, PySem.W.mg_of X G a_is_still_pair, k_is_still_pair, b_is_still_pair, ok_is_still_pair (k := 0) F_is_still_pair z⟩
  have c_numbers_near : Cal l.prog w K mg base 1 "numbers_near" ["value", "end"] _ := ⟨f_numbers_near, _, PySem.W.mg_of X G a_numbers_near, k_numbers_near, b_numbers_near, ok_numbers_near (k := 0) _ gF F_numbers_near z⟩
  have c_far_off : Cal l.prog w K mg base 1 "far_off" ["number", "value", "end", "bottom"] _ := ⟨f_far_off, _, PySem.W.mg_of X G a_far_off, k_far_off, b_far_off, ok_far_off (k := 0) F_far_off z⟩
  have c_nearest_still : Cal l.prog w K mg base 5 "nearest_still" ["one", "two", "point"] _ := ⟨f_nearest_still, _, PySem.W.mg_of X G a_nearest_still, k_nearest_still, b_nearest_still, ok_nearest_still _ gP F_nearest_still z c_is_wanted c_is_place c_numbers_near c_far_off c_is_still_pair⟩
  have c_is_fractions : Cal l.prog w K mg base 3 "is_fractions" ["thing"] _ := ⟨f_is_fractions, _, PySem.W.mg_of X G a_is_fractions, k_is_fractions, b_is_fractions, ok_is_fractions F_is_fractions z c_is_fraction⟩
  have c_common_bottom : Cal l.prog w K mg base 2 "common_bottom" ["pairs"] _ := ⟨f_common_bottom, _, PySem.W.mg_of X G a_common_bottom, k_common_bottom, b_common_bottom, ok_common_bottom F_common_bottom z c_shared_divisor⟩
  have c_cleared : Cal l.prog w K mg base 3 "cleared" ["pairs"] _ := ⟨f_cleared, _, PySem.W.mg_of X G a_cleared, k_cleared, b_cleared, ok_cleared F_cleared c_common_bottom⟩
  have c_is_bottom : Cal l.prog w K mg base 4 "is_bottom" ["thing"] _ := ⟨f_is_bottom, _, PySem.W.mg_of X G a_is_bottom, k_is_bottom, b_is_bottom, ok_is_bottom gN T_NOUGHT F_is_bottom z c_is_fractions⟩
  have c_check_bottom : Cal l.prog w K mg base 5 "check_bottom" ["thing"] _ := ⟨f_check_bottom, _, PySem.W.mg_of X G a_check_bottom, k_check_bottom, b_check_bottom, ok_check_bottom F_check_bottom c_is_bottom⟩
  have c_is_long : Cal l.prog w K mg base 1 "is_long" ["common"] _ := ⟨f_is_long, _, PySem.W.mg_of X G a_is_long, k_is_long, b_is_long, ok_is_long (k := 0) _ gL F_is_long⟩
  have c_shortened : Cal l.prog w K mg base 2 "shortened" ["numbers"] _ := ⟨f_shortened, _, PySem.W.mg_of X G a_shortened, k_shortened, b_shortened, ok_shortened F_shortened z c_shared_divisor⟩
  have c_numbers_stepped_down : Cal l.prog w K mg base 3 "numbers_stepped_down" ["numbers"] _ := ⟨f_numbers_stepped_down, _, PySem.W.mg_of X G a_numbers_stepped_down, k_numbers_stepped_down, b_numbers_stepped_down, ok_numbers_stepped_down F_numbers_stepped_down z c_shortened⟩
  have c_ladder_by_numbers : Cal l.prog w K mg base 4 "ladder_by_numbers" ["numbers"] _ := ⟨f_ladder_by_numbers, _, PySem.W.mg_of X G a_ladder_by_numbers, k_ladder_by_numbers, b_ladder_by_numbers, ok_ladder_by_numbers F_ladder_by_numbers z c_shortened c_numbers_stepped_down c_lowest⟩
  have c_ladder : Cal l.prog w K mg base 6 "ladder" ["bottom"] _ := ⟨f_ladder, _, PySem.W.mg_of X G a_ladder, k_ladder, b_ladder, ok_ladder F_ladder c_check_bottom c_cleared c_is_long c_ladder_by_numbers⟩
  have c__law_cell_at : Cal l.prog w K mg base 1 "_law_cell_at" ["_law_script", "_law_k"] _ := ⟨f__law_cell_at, _, PySem.W.mg_of X G a__law_cell_at, k__law_cell_at, b__law_cell_at, ok_cell (k := 0) F__law_cell_at z.len⟩
  have c__law_well : Cal l.prog w K mg base 1 "_law_well" ["_law_cell"] _ := ⟨f__law_well, _, PySem.W.mg_of X G a__law_well, k__law_well, b__law_well, ok_well (k := 0) F__law_well z.int⟩
  have c__law_draw : Cal l.prog w K mg base 1 "_law_draw" ["_law_well_here", "_law_many"] _ := ⟨f__law_draw, _, PySem.W.mg_of X G a__law_draw, k__law_draw, b__law_draw, ok_draw (k := 0) F__law_draw⟩
  have c__law_low : Cal l.prog w K mg base 1 "_law_low" ["_law_top", "_law_bottom"] _ := ⟨f__law_low, _, PySem.W.mg_of X G a__law_low, k__law_low, b__law_low, ok__law_low (k := 0) F__law_low z⟩
  have c__law_in : Cal l.prog w K mg base 7 "_law_in" ["_law_pair", "_law_scale"] _ := ⟨f__law_in, _, PySem.W.mg_of X G a__law_in, k__law_in, b__law_in, ok__law_in F__law_in c_ladder c__law_low⟩
  have c__law_still : Cal l.prog w K mg base 1 "_law_still" ["_law_pair", "_law_scale"] _ := ⟨f__law_still, _, PySem.W.mg_of X G a__law_still, k__law_still, b__law_still, ok__law_still (k := 0) F__law_still z⟩
  have c__law_near : Cal l.prog w K mg base 2 "_law_near" ["_law_well_here", "_law_scale"] _ := ⟨f__law_near, _, PySem.W.mg_of X G a__law_near, k__law_near, b__law_near, ok__law_near F__law_near c__law_draw⟩
  exact ok_law F_law z c__law_cell_at c__law_well c__law_draw c__law_low c__law_in c__law_still c__law_near c_nearest_still

end E1

open PySem PySem.W PyProof.Rows
set_option maxRecDepth 100000 in
set_option maxHeartbeats 0 in
theorem PySem.Challenge.cw_echobound_k86_whole_still_pairs_by_their_holds : PySem.Challenge.rw_echobound_k86_whole_still_pairs_by_their.Holds := by
  w_on; o_law; k_head; (case hw => w_witness2)
  k_fill
  refine L2.walk_of (l := PySem.Challenge.rw_echobound_k86_whole_still_pairs_by_their) (n := 63) (k := 8) (x := "_law_script") (CX := fun _ => L2.CX0) (sp := fun w => E1.spLaw _) rfl (by decide) rfl ⟨rfl, by decide, by decide⟩ (fun w h Y => PySem.W.kIn_of Y) ?F (fun _ _ a ns hl _ hS => ⟨a, ns, rfl, hS, hl, fun _ => rfl⟩) (fun _ _ _ _ _ h => h)
  case F =>
    intro w mg fa h KX G hmg
    refine' E1.all_mk KX G hmg ?a_is_whole ?l_is_whole ?c_is_whole ?k_is_whole ?a_is_fraction ?l_is_fraction ?c_is_fraction ?k_is_fraction ?a_shared_divisor ?l_shared_divisor ?c_shared_divisor ?k_shared_divisor ?a_lowest ?l_lowest ?c_lowest ?k_lowest ?a_plus ?l_plus ?c_plus ?k_plus ?a_size_of ?l_size_of ?c_size_of ?k_size_of ?a_under ?l_under ?c_under ?k_under ?a_is_place ?l_is_place ?c_is_place ?k_is_place ?a_is_fractions ?l_is_fractions ?c_is_fractions ?k_is_fractions ?a_common_bottom ?l_common_bottom ?c_common_bottom ?k_common_bottom ?a_cleared ?l_cleared ?c_cleared ?k_cleared ?a_is_wanted ?l_is_wanted ?c_is_wanted ?k_is_wanted ?a_is_still_pair ?l_is_still_pair ?c_is_still_pair ?k_is_still_pair ?a_numbers_near ?l_numbers_near ?c_numbers_near ?k_numbers_near ?a_far_off ?l_far_off ?c_far_off ?k_far_off ?a_nearest_still ?l_nearest_still ?c_nearest_still ?k_nearest_still ?a_is_bottom ?l_is_bottom ?c_is_bottom ?k_is_bottom ?a_check_bottom ?l_check_bottom ?c_check_bottom ?k_check_bottom ?a_is_long ?l_is_long ?c_is_long ?k_is_long ?a_shortened ?l_shortened ?c_shortened ?k_shortened ?a_numbers_stepped_down ?l_numbers_stepped_down ?c_numbers_stepped_down ?k_numbers_stepped_down ?a_ladder_by_numbers ?l_ladder_by_numbers ?c_ladder_by_numbers ?k_ladder_by_numbers ?a_ladder ?l_ladder ?c_ladder ?k_ladder ?a__law_cell_at ?l__law_cell_at ?c__law_cell_at ?k__law_cell_at ?a__law_well ?l__law_well ?c__law_well ?k__law_well ?a__law_draw ?l__law_draw ?c__law_draw ?k__law_draw ?a__law_low ?l__law_low ?c__law_low ?k__law_low ?a__law_in ?l__law_in ?c__law_in ?k__law_in ?a__law_still ?l__law_still ?c__law_still ?k__law_still ?a__law_near ?l__law_near ?c__law_near ?k__law_near ?a_law ?l_law ?c_law ?k_law ?g_FARTHEST_STEPS ?g_GREATEST_POINT ?g_LONGEST_COMMON ?g_ONE ?t_ONE ?g_NOUGHT ?t_NOUGHT ?z_isinstance ?z_int ?z_bool ?z_tuple ?z_len ?z_abs ?z_list ?z_all ?z_range ?z_max ?z_sorted ?z_zip
    (case a_is_whole => k_is)
    (case l_is_whole => k_is)
    (case c_is_whole => k_is)
    (case k_is_whole => k_is)
    (case a_is_fraction => k_is)
    (case l_is_fraction => k_is)
    (case c_is_fraction => k_is)
    (case k_is_fraction => k_is)
    (case a_shared_divisor => k_is)
    (case l_shared_divisor => k_is)
    (case c_shared_divisor => k_is)
    (case k_shared_divisor => k_is)
    (case a_lowest => k_is)
    (case l_lowest => k_is)
    (case c_lowest => k_is)
    (case k_lowest => k_is)
    (case a_plus => k_is)
    (case l_plus => k_is)
    (case c_plus => k_is)
    (case k_plus => k_is)
    (case a_size_of => k_is)
    (case l_size_of => k_is)
    (case c_size_of => k_is)
    (case k_size_of => k_is)
    (case a_under => k_is)
    (case l_under => k_is)
    (case c_under => k_is)
    (case k_under => k_is)
    (case a_is_place => k_is)
    (case l_is_place => k_is)
    (case c_is_place => k_is)
    (case k_is_place => k_is)
    (case a_is_fractions => k_is)
    (case l_is_fractions => k_is)
    (case c_is_fractions => k_is)
    (case k_is_fractions => k_is)
    (case a_common_bottom => k_is)
    (case l_common_bottom => k_is)
    (case c_common_bottom => k_is)
    (case k_common_bottom => k_is)
    (case a_cleared => k_is)
    (case l_cleared => k_is)
    (case c_cleared => k_is)
    (case k_cleared => k_is)
    (case a_is_wanted => k_is)
    (case l_is_wanted => k_is)
    (case c_is_wanted => k_is)
    (case k_is_wanted => k_is)
    (case a_is_still_pair => k_is)
    (case l_is_still_pair => k_is)
    (case c_is_still_pair => k_is)
    (case k_is_still_pair => k_is)
    (case a_numbers_near => k_is)
    (case l_numbers_near => k_is)
    (case c_numbers_near => k_is)
    (case k_numbers_near => k_is)
    (case a_far_off => k_is)
    (case l_far_off => k_is)
    (case c_far_off => k_is)
    (case k_far_off => k_is)
    (case a_nearest_still => k_is)
    (case l_nearest_still => k_is)
    (case c_nearest_still => k_is)
    (case k_nearest_still => k_is)
    (case a_is_bottom => k_is)
    (case l_is_bottom => k_is)
    (case c_is_bottom => k_is)
    (case k_is_bottom => k_is)
    (case a_check_bottom => k_is)
    (case l_check_bottom => k_is)
    (case c_check_bottom => k_is)
    (case k_check_bottom => k_is)
    (case a_is_long => k_is)
    (case l_is_long => k_is)
    (case c_is_long => k_is)
    (case k_is_long => k_is)
    (case a_shortened => k_is)
    (case l_shortened => k_is)
    (case c_shortened => k_is)
    (case k_shortened => k_is)
    (case a_numbers_stepped_down => k_is)
    (case l_numbers_stepped_down => k_is)
    (case c_numbers_stepped_down => k_is)
    (case k_numbers_stepped_down => k_is)
    (case a_ladder_by_numbers => k_is)
    (case l_ladder_by_numbers => k_is)
    (case c_ladder_by_numbers => k_is)
    (case k_ladder_by_numbers => k_is)
    (case a_ladder => k_is)
    (case l_ladder => k_is)
    (case c_ladder => k_is)
    (case k_ladder => k_is)
    (case a__law_cell_at => k_is)
    (case l__law_cell_at => k_is)
    (case c__law_cell_at => k_is)
    (case k__law_cell_at => k_is)
    (case a__law_well => k_is)
    (case l__law_well => k_is)
    (case c__law_well => k_is)
    (case k__law_well => k_is)
    (case a__law_draw => k_is)
    (case l__law_draw => k_is)
    (case c__law_draw => k_is)
    (case k__law_draw => k_is)
    (case a__law_low => k_is)
    (case l__law_low => k_is)
    (case c__law_low => k_is)
    (case k__law_low => k_is)
    (case a__law_in => k_is)
    (case l__law_in => k_is)
    (case c__law_in => k_is)
    (case k__law_in => k_is)
    (case a__law_still => k_is)
    (case l__law_still => k_is)
    (case c__law_still => k_is)
    (case k__law_still => k_is)
    (case a__law_near => k_is)
    (case l__law_near => k_is)
    (case c__law_near => k_is)
    (case k__law_near => k_is)
    (case a_law => k_is)
    (case l_law => k_is)
    (case c_law => k_is)
    (case k_law => k_is)
    (case g_FARTHEST_STEPS => k_is)
    (case g_GREATEST_POINT => k_is)
    (case g_LONGEST_COMMON => k_is)
    (case g_ONE => k_is)
    (case t_ONE => k_is)
    (case g_NOUGHT => k_is)
    (case t_NOUGHT => k_is)
    (case z_isinstance => k_is)
    (case z_int => k_is)
    (case z_bool => k_is)
    (case z_tuple => k_is)
    (case z_len => k_is)
    (case z_abs => k_is)
    (case z_list => k_is)
    (case z_all => k_is)
    (case z_range => k_is)
    (case z_max => k_is)
    (case z_sorted => k_is)
    (case z_zip => k_is)
