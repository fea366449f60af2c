import PyProof.Rows.All
import Wide.All
import OpenK.AllK
import Wide.FinOn
import HandS.Codes
import HandS.ForMost
import HandS.Wide
import HandS.Zip
import HandS.IsInst
import HandS.Defaults
import HandS.Style
import HandS.Walk
import HandS.More
import OpenK.KEqL
import HandS.Flow
import HandS.TryOnly
import HandS.Conv
import HandS.WideBits
import KE.SortData
import PySem.Challenge.RW_echobound_k85_the_nearest_still_pair
set_option Elab.async false
set_option linter.all false
set_option maxRecDepth 100000
set_option maxHeartbeats 4000000
namespace E1
open PySem PySem.Spec PyProof.Rows L2
/-! ### a def of the text that is called by its name -/
def Cal (P : Program) (w : World) (K : PySem.W.Frag) (mg : Str → Option Value) (base : Heap) (k : Nat) (x : Str) (ps : List Str) (sp : Sp) : Prop :=
  ∃ (f : Addr) (fd : FuncData), mg x = some (.ref f) ∧ PySem.W.keepIn K (.ref f) = true ∧ Binds K fd ps [] ∧ FnOk P w K mg base CX0 k f fd ps sp
theorem pe_cal {X : Cx} {k j : Nat} {x : Str} {ps : List Str} {sp : Sp} {e : Expr} {es : List Expr} {t : TA} {p pos : Pos} (c : Cal X.prog X.w X.K X.mg X.base k x ps sp) (hr : Room j X.A) (ha : PA X (e :: es) t) (hle : k ≤ j := by decide) (hg : Gl X x := by rfl)
    (hdb : (x == ("__debug__" : Str)) = false := by decide) (he : starEach (e :: es) X.env = (false, eval e X.env) :: starEach es X.env := by rfl) (hpl : (backTo pos (starEach es X.env)).any (·.1) = false := by rfl) :
    PE X (.Call (.Name x p) (e :: es) [] pos) (tCall sp [] E0 t) := by
  obtain ⟨f, fd, h1, h2, h3, h4⟩ := c
  exact pe_call h4 (hr.mono hle) hg h1 h2 h3 .nil pass0 ha hdb he hpl
/-! ### heaps -/
def SameBut (a : Addr) (H H' : Hp) : Prop := ∀ b o, b ≠ a → H b = some o → H' b = some o
theorem SameBut.refl (a : Addr) (H : Hp) : SameBut a H H := fun _ _ _ h => h
theorem SameBut.trans {a : Addr} {H H1 H2 : Hp} (x : SameBut a H H1) (y : SameBut a H1 H2) : SameBut a H H2 := fun b o n h => y b o n (x b o n h)
theorem SameBut.of {a : Addr} {H H' : Hp} (s : Same H H') : SameBut a H H' := fun b o _ h => s b o h
theorem SameBut.upd {a : Addr} {H : Hp} {o : HO} : SameBut a H (upd H a o) := fun b _ n h => by
  rw [upd_ne n]
  exact h
theorem same_new {H : Hp} {p : Addr} {o : HO} (h : H p = none) : Same H (upd H p o) := fun b x e => by
  rw [upd_ne (ne_of_none e h)]
  exact e
theorem Same.tup {K : PySem.W.Frag} {H H' : Hp} {a : Addr} {xs : List V} (e : Same H H') (h : SqT K H a xs) : SqT K H' a xs := by
  rcases h with (h | ⟨o, h⟩) | h
  · exact .inl (.inl (e _ _ h))
  · exact .inl (.inr ⟨o, e _ _ h⟩)
  · exact .inr h
theorem a0 {α : Type} {x : α} {l : List α} : atI (x :: l) 0 = some x := atI_nat (j := 0) rfl
theorem a1 {α : Type} {x y : α} {l : List α} : atI (x :: y :: l) 1 = some y := atI_nat (j := 1) rfl
theorem a2 {α : Type} {x y z : α} {l : List α} : atI (x :: y :: z :: l) 2 = some z := atI_nat (j := 2) rfl
theorem toB {p : Prop} [Decidable p] (h : decide p = true) : p := of_decide_eq_true h
theorem toNB {p : Prop} [Decidable p] (h : ¬ decide p = true) : ¬ p := fun z => h (decide_eq_true z)
/-- a well: the digits left, a number that is mixed, how many were mixed (at most c) -/
def WellAt (H : Hp) (a : Addr) (c : Int) : Prop := ∃ x y z : Int, H a = some (.lst [.int x, .int y, .int z]) ∧ 0 ≤ y ∧ y < 2147483647 ∧ 0 ≤ z ∧ z ≤ c
theorem WellAt.mono {H : Hp} {a : Addr} {c d : Int} (h : WellAt H a c) (l : c ≤ d) : WellAt H a d := by
  obtain ⟨x, y, z, e, h1, h2, h3, h4⟩ := h
  exact ⟨x, y, z, e, h1, h2, h3, by omega⟩
theorem WellAt.same {H H' : Hp} {a : Addr} {c : Int} (h : WellAt H a c) (s : Same H H') : WellAt H' a c := by
  obtain ⟨x, y, z, e, h1, h2, h3, h4⟩ := h
  exact ⟨x, y, z, s _ _ e, h1, h2, h3, h4⟩
theorem WellAt.but {H H' : Hp} {a b : Addr} {c : Int} (h : WellAt H a c) (s : SameBut b H H') (n : a ≠ b) : WellAt H' a c := by
  obtain ⟨x, y, z, e, h1, h2, h3, h4⟩ := h
  exact ⟨x, y, z, s _ _ n e, h1, h2, h3, h4⟩
/-! ### promises of the law's helpers -/
def spCell (K : PySem.W.Frag) : Sp := fun vs H Q _ => ∃ (a : Addr) (ns : List Int) (k : Nat), vs = [.ref a, .int k] ∧ SqL K H a (ns.map V.int) ∧ Q (.int (ns.getD k 0)) H
def spWell : Sp := fun vs H Q _ => ∃ c : Int, vs = [.int c] ∧ ∀ p : Addr, H p = none → ∀ H', Same H H' → WellAt H' p 0 → Q (.ref p) H'
/-- a number from 0 to below m; the well has at most one more -/
def spDraw : Sp := fun vs H Q _ => ∃ (a : Addr) (c m : Int), vs = [.ref a, .int m] ∧ WellAt H a c ∧ c ≤ 1000000000 ∧ 0 < m ∧ m.natAbs < 2 ^ 9000 ∧
  ∀ (r : Int) (H' : Hp), 0 ≤ r → r < m → SameBut a H H' → (∀ b, H b = none → H' b = none) → WellAt H' a (c + 1) → Q (.int r) H'
def topS (i : Nat) : Stmt := PySem.Challenge.pw_echobound_k85_the_nearest_still_pair.main.body.getD i (.Pass ⟨0, 0, 0, 0⟩)
abbrev s_is_whole : Stmt := topS 5
abbrev s_is_fraction : Stmt := topS 6
abbrev s_shared_divisor : Stmt := topS 7
abbrev s_lowest : Stmt := topS 8
abbrev s_plus : Stmt := topS 9
abbrev s_size_of : Stmt := topS 10
abbrev s_under : Stmt := topS 11
abbrev s_is_place : Stmt := topS 13
abbrev s_is_wanted : Stmt := topS 17
abbrev s_is_still_pair : Stmt := topS 18
abbrev s_numbers_near : Stmt := topS 19
abbrev s_far_off : Stmt := topS 20
abbrev s_nearest_still : Stmt := topS 21
abbrev s__law_cell_at : Stmt := topS 23
abbrev s__law_well : Stmt := topS 24
abbrev s__law_draw : Stmt := topS 25
abbrev s__law_low : Stmt := topS 26
abbrev s__law_same : Stmt := topS 27
abbrev s__law_wanted : Stmt := topS 28
abbrev s__law_off : Stmt := topS 29
abbrev s__law_word : Stmt := topS 30
abbrev s_law : Stmt := topS 31
section
variable {P : Program} {w : World} {K : PySem.W.Frag} {mg : Str → Option Value} {base : Heap}
end
end E1

namespace E1
open PySem PySem.Spec PyProof.Rows L2
/-! ### sorted of things that read as data -/
section
open PySem.W
theorem each_rel {δ : Type} : ∀ {ps : List (V × δ)} {us : List Value}, Vals (ps.map (·.1)) us → EachIs (fun v (b : V × δ) => RelV b.1 v) us ps
  | [], _, .nil => .nil
  | _ :: _, _, .cons r t => .cons r (each_rel t)
theorem rel_each {δ : Type} : ∀ {us : List Value} {ps : List (V × δ)}, EachIs (fun v (b : V × δ) => RelV b.1 v) us ps → Vals (ps.map (·.1)) us
  | _, _, .nil => .nil
  | _, _, .cons r t => .cons r (rel_each t)
theorem each_reads {δ : Type} {X : Cx} {pins : List (Addr × Obj)} {σ : L2.St} {H : Hp} {s : Shared} (I : Inv X pins σ H s) (enc : δ → PyData) : ∀ {ps : List (V × δ)} {us : List Value}, Vals (ps.map (·.1)) us → (∀ p ∈ ps, Dp X.K H p.1 (enc p.2)) → EachIs (fun v (b : V × δ) => ∃ as, Reads s.heap v (enc b.2) as) us ps
  | [], _, .nil, _ => .nil
  | p :: _, _, .cons r t, h => .cons (Dp.reads I _ _ _ (h p List.mem_cons_self) r) (each_reads I enc t fun q hq => h q (List.mem_cons_of_mem _ hq))
/-- sorted(xs): xs tuples that read as enc of something, le their order -/
def rSortedE {δ : Type} (K : PySem.W.Frag) (enc : δ → PyData) (le : δ → δ → Bool) : List V → Hp → VK → Prop := fun vs H Q => ∃ (a : Addr) (ps : List (V × δ)), vs = [V.ref a] ∧ SqL K H a (ps.map (·.1)) ∧ (∀ p ∈ ps, Dp K H p.1 (enc p.2)) ∧
  ∀ (qs : List (V × δ)) (r : Addr), qs.Perm ps → qs.Pairwise (fun p q => le p.2 q.2 = true) → H r = none → Q (.ref r) (upd H r (.lst (qs.map (·.1))))
structure OrdE {δ : Type} (enc : δ → PyData) (le : δ → δ → Bool) : Prop where
  al : ∀ x y, alike (enc x) (enc y) = true
  tu : ∀ x, ∃ h t, enc x = .tuple (h :: t)
  dp : ∀ x, (enc x).depth ≤ 60
  eq : ∀ x y, dataLt (enc y) (enc x) = !le x y
  tr : ∀ x y z, le x y = true → le y z = true → le x z = true
  to : ∀ x y, (le x y || le y x) = true
theorem cr_sortedE {X : Cx} {δ : Type} {enc : δ → PyData} {le : δ → δ → Bool} (hu : X.A.units + 64 < cLine) (O : OrdE enc le) : CallR X (.builtin "sorted") (rSortedE X.K enc le) := by
  intro pins s σ H vs us Q I r h
  obtain ⟨a, ps, rfl, hs, hd, q⟩ := h
  obtain ⟨its, rv, hl, hz⟩ := I.list hs
  have e1 : us = [Value.ref a] := Vals.ref1 r
  subst e1
  have eqLe : (dataLe false fun p : V × δ => enc p.2) = fun p q => le p.2 q.2 := by
    rw [dataLe_eq]
    funext p q
    show (!dataLt (enc q.2) (enc p.2)) = le p.2 q.2
    rw [O.eq, Bool.not_not]
  have len : ps.length ≤ sizeLine := by
    rw [List.length_map] at hz
    exact hz
  refine sorted_data (R := fun v (b : V × δ) => RelV b.1 v) (enc := fun p : V × δ => enc p.2) hl.isList (each_rel rv) (each_reads I enc rv hd) (AllAlike.of fun x y => O.al x.2 y.2) (Sortable.tuples fun x => O.tu x.2) len (fun b _ => ?_) (fun out _ each => ?_)
  · have := O.dp b.2
    omega
  · rw [eqLe] at each
    obtain ⟨ep, at_⟩ := PyProof.Rows.sortedAll_at s.heap its out.toArray
    have pm := List.mergeSort_perm ps (fun p q => le p.2 q.2)
    have pw := List.pairwise_mergeSort (le := fun p q : V × δ => le p.2 q.2) (fun x y z h1 h2 => O.tr _ _ _ h1 h2) (fun x y => O.to _ _) ps
    refine ⟨.ref _, upd H (s.heap.objs.size + 1) (.lst ((ps.mergeSort fun p q => le p.2 q.2).map (·.1))), ?_, rfl, q _ _ pm pw (I.hok.fresh (Nat.le_succ _))⟩
    refine I.laid (t' := s.toks) (fun _ _ old => PyProof.Rows.sortedAll_old old) (Nat.le_succ _) ⟨?_, out, ep, rel_each each, at_⟩
    rw [List.length_map, pm.length_eq]
    exact len
end
/-! ### the two orders -/
def wS (b : Bool) : Str := if b = true then "two" else "one"
def enc3 (p : Int × Int × Int) : PyData := .tuple [.int p.1, .int p.2.1, .int p.2.2]
def encW (p : Int × Int × Bool) : PyData := .tuple [.int p.1, .int p.2.1, .str (wS p.2.2)]
def le3 (p q : Int × Int × Int) : Bool := decide (p.1 < q.1 ∨ p.1 = q.1 ∧ (p.2.1 < q.2.1 ∨ p.2.1 = q.2.1 ∧ p.2.2 ≤ q.2.2))
def leW (p q : Int × Int × Bool) : Bool := decide (p.1 < q.1 ∨ p.1 = q.1 ∧ (p.2.1 < q.2.1 ∨ p.2.1 = q.2.1 ∧ (p.2.2 = true → q.2.2 = true)))
section
open PySem.W
theorem dLt_int (x y : Int) : dataLt (.int x) (.int y) = decide (x < y) := by
  have h := congrFun (congrFun (dataLe_int (fun n : Int => n)) y) x
  rw [dataLe_eq] at h
  replace h : (!dataLt (.int x) (.int y)) = decide (y ≤ x) := h
  by_cases c : x < y
  · rw [decide_eq_false (show ¬ y ≤ x by omega)] at h
    rw [decide_eq_true c]
    cases hb : dataLt (.int x) (.int y) with
    | true => rfl
    | false => rw [hb] at h; cases h
  · rw [decide_eq_true (show y ≤ x by omega)] at h
    rw [decide_eq_false c]
    cases hb : dataLt (.int x) (.int y) with
    | false => rfl
    | true => rw [hb] at h; cases h
theorem eqv_int (x y : Int) : PyData.eqv (.int x) (.int y) = decide (x = y) := by
  simp only [PyData.eqv]
  by_cases h : x = y
  · rw [decide_eq_true h, h]
    simp
  · rw [decide_eq_false h]
    simpa using h
theorem row3 {x y x' y' : Int} {z z' : PyData} (h : alike z z' = true) : dataLt (.tuple [.int x, .int y, z]) (.tuple [.int x', .int y', z']) = if x = x' then (if y = y' then (if PyData.eqv z z' = true then false else dataLt z z') else decide (y < y')) else decide (x < x') := by
  show PyProof.Rows.lexLt itemOrd (keyToksAll [.int x, .int y, z]) (keyToksAll [.int x', .int y', z']) = _
  rw [dataLt_cons rfl, dataLt_cons rfl, dataLt_cons h, eqv_int, eqv_int, dLt_int, dLt_int]
  simp only [decide_eq_true_eq]
  rfl
theorem ord3 : OrdE enc3 le3 := by
  refine ⟨fun x y => rfl, fun x => ⟨_, _, rfl⟩, fun x => by simp [enc3, PyData.depth, PyData.depthAll], fun x y => ?_, fun x y z h1 h2 => ?_, fun x y => ?_⟩
  · unfold enc3 le3
    rw [row3 rfl, eqv_int, dLt_int]
    by_cases c1 : y.1 = x.1
    · rw [if_pos c1]
      by_cases c2 : y.2.1 = x.2.1
      · rw [if_pos c2]
        by_cases c3 : y.2.2 = x.2.2
        · rw [if_pos (decide_eq_true c3), decide_eq_true (by omega)]
          rfl
        · rw [if_neg (by simpa using c3)]
          by_cases c4 : y.2.2 < x.2.2
          · rw [decide_eq_true c4, decide_eq_false (by omega)]
            rfl
          · rw [decide_eq_false c4, decide_eq_true (by omega)]
            rfl
      · rw [if_neg c2]
        by_cases c4 : y.2.1 < x.2.1
        · rw [decide_eq_true c4, decide_eq_false (by omega)]
          rfl
        · rw [decide_eq_false c4, decide_eq_true (by omega)]
          rfl
    · rw [if_neg c1]
      by_cases c4 : y.1 < x.1
      · rw [decide_eq_true c4, decide_eq_false (by omega)]
        rfl
      · rw [decide_eq_false c4, decide_eq_true (by omega)]
        rfl
  · unfold le3 at *
    have a := of_decide_eq_true h1
    have b := of_decide_eq_true h2
    exact decide_eq_true (by omega)
  · unfold le3
    rw [Bool.or_eq_true, decide_eq_true_eq, decide_eq_true_eq]
    omega
theorem wS_lt (a b : Bool) : dataLt (.str (wS a)) (.str (wS b)) = (!a && b) := by
  cases a <;> cases b <;> decide +kernel
theorem wS_eqv (a b : Bool) : PyData.eqv (.str (wS a)) (.str (wS b)) = decide (a = b) := by
  cases a <;> cases b <;> decide +kernel
theorem ordW : OrdE encW leW := by
  refine ⟨fun x y => rfl, fun x => ⟨_, _, rfl⟩, fun x => by simp [encW, PyData.depth, PyData.depthAll], fun x y => ?_, fun x y z h1 h2 => ?_, fun x y => ?_⟩
  · unfold encW leW
    rw [row3 rfl, wS_eqv, wS_lt]
    by_cases c1 : y.1 = x.1
    · rw [if_pos c1]
      by_cases c2 : y.2.1 = x.2.1
      · rw [if_pos c2, c1, c2]
        cases y.2.2 <;> cases x.2.2 <;> simp
      · rw [if_neg c2]
        by_cases c4 : y.2.1 < x.2.1
        · rw [decide_eq_true c4, decide_eq_false (by omega)]
          rfl
        · rw [decide_eq_false c4, decide_eq_true (by omega)]
          rfl
    · rw [if_neg c1]
      by_cases c4 : y.1 < x.1
      · rw [decide_eq_true c4, decide_eq_false (by omega)]
        rfl
      · rw [decide_eq_false c4, decide_eq_true (by omega)]
        rfl
  · unfold leW at *
    have a := of_decide_eq_true h1
    have b := of_decide_eq_true h2
    refine decide_eq_true ?_
    rcases a with a | ⟨a1, a | ⟨a2, a3⟩⟩ <;> rcases b with b | ⟨b1, b | ⟨b2, b3⟩⟩
    all_goals first | exact .inl (by omega) | exact .inr ⟨by omega, .inl (by omega)⟩ | exact .inr ⟨by omega, .inr ⟨by omega, fun h => b3 (a3 h)⟩⟩
  · unfold leW
    rw [Bool.or_eq_true, decide_eq_true_eq, decide_eq_true_eq]
    cases x.2.2 <;> cases y.2.2 <;> simp <;> omega
end

end E1

namespace E1
open PySem PySem.Spec PyProof.Rows L2

def CalD (P : Program) (w : World) (K : PySem.W.Frag) (mg : Str → Option Value) (base : Heap) (k : Nat) (x : Str) (ps : List Str) (dvs : List V) (sp : Sp) : Prop :=
  ∃ (f : Addr) (fd : FuncData) (ds : List Value), mg x = some (.ref f) ∧ PySem.W.keepIn K (.ref f) = true ∧ Vals dvs ds ∧ Binds K fd ps ds ∧ FnOk P w K mg base CX0 k f fd ps sp
theorem pe_cald {X : Cx} {k j : Nat} {x : Str} {ps : List Str} {dvs : List V} {sp : Sp} {e : Expr} {es : List Expr} {t : TA} {p pos : Pos} (c : CalD X.prog X.w X.K X.mg X.base k x ps dvs sp) (hr : Room j X.A) (ha : PA X (e :: es) t) (hle : k ≤ j := by decide) (hg : Gl X x := by rfl)
    (hdb : (x == ("__debug__" : Str)) = false := by decide) (he : starEach (e :: es) X.env = (false, eval e X.env) :: starEach es X.env := by rfl) (hpl : (backTo pos (starEach es X.env)).any (·.1) = false := by rfl) :
    PE X (.Call (.Name x p) (e :: es) [] pos) (tCall sp dvs E0 t) := by
  obtain ⟨f, fd, ds, h1, h2, hd, h3, h4⟩ := c
  exact pe_call h4 (hr.mono hle) hg h1 h2 h3 hd pass0 ha hdb he hpl
def CalK (P : Program) (w : World) (K : PySem.W.Frag) (mg : Str → Option Value) (base : Heap) (k : Nat) (x : Str) (ps : List Str) (n : Nat) (ks : List Str) (gV : List V → List V → List V) (sp : Sp) : Prop :=
  ∃ (f : Addr) (fd : FuncData) (g : List Value → List Value → List Value), mg x = some (.ref f) ∧ PySem.W.keepIn K (.ref f) = true ∧ KBn K fd ps n ks g gV ∧ FnOk P w K mg base CX0 k f fd ps sp
theorem pe_calk {X : Cx} {k j n : Nat} {x : Str} {ps ks : List Str} {gV : List V → List V → List V} {sp : Sp} {e : Expr} {es : List Expr} {kws : List Keyword} {t tk : TA} {p pos : Pos} (c : CalK X.prog X.w X.K X.mg X.base k x ps n ks gV sp) (hr : Room j X.A)
    (ha : PA X (e :: es) t) (hkw : PK X kws tk) (hle : k ≤ j := by decide) (hg : Gl X x := by rfl) (hall : (backToKw pos (keywordEach kws X.env)).all (·.1.isSome) = true := by rfl) (hks : (backToKw pos (keywordEach kws X.env)).filterMap (·.1) = ks := by rfl)
    (hdb : (x == ("__debug__" : Str)) = false := by decide) (he : starEach (e :: es) X.env = (false, eval e X.env) :: starEach es X.env := by rfl)
    (hpl : ((backTo pos (starEach (e :: es) X.env)).any (·.1) || (backToKw pos (keywordEach kws X.env)).any (·.1.isNone)) = false := by rfl) :
    PE X (.Call (.Name x p) (e :: es) kws pos) (tCallN n ks.length sp gV E0 t tk) := by
  obtain ⟨f, fd, g, h1, h2, h3, h4⟩ := c
  exact pe_callN h4 (hr.mono hle) hg h1 h2 h3 pass0 ha hkw hall hks hdb he hpl
theorem pe_calk0 {X : Cx} {k j : Nat} {x : Str} {ps ks : List Str} {gV : List V → List V → List V} {sp : Sp} {kws : List Keyword} {tk : TA} {p pos : Pos} (c : CalK X.prog X.w X.K X.mg X.base k x ps 0 ks gV sp) (hr : Room j X.A)
    (hkw : PK X kws tk) (hle : k ≤ j := by decide) (hg : Gl X x := by rfl) (hall : (backToKw pos (keywordEach kws X.env)).all (·.1.isSome) = true := by rfl) (hks : (backToKw pos (keywordEach kws X.env)).filterMap (·.1) = ks := by rfl)
    (hdb : (x == ("__debug__" : Str)) = false := by decide)
    (hpl : ((backTo pos (starEach [] X.env)).any (·.1) || (backToKw pos (keywordEach kws X.env)).any (·.1.isNone)) = false := by rfl) :
    PE X (.Call (.Name x p) [] kws pos) (tCallN 0 ks.length sp gV E0 tNil tk) := by
  obtain ⟨f, fd, g, h1, h2, h3, h4⟩ := c
  refine ⟨fun pins s σ H Q I h => ?_⟩
  refine wpAny_Call_Name_kw (ld_glob I hg h1 ?_ hdb)
  refine PySem.W.callWith_KW0 (h₀ := X.base) I.ok.mod.kin h2 hall (thn (hkw.run pos pins s σ H _ I h) fun ws s2 ⟨zs, H2, I2, rz, l1, l2, q2⟩ => ⟨I2.kIn, ?_⟩) hpl
  rw [hks]
  exact run_fnN (vs := []) (us := []) h4 (hr.mono hle) h3 pass0 I2 .nil rz l1 l2 q2
/-- a class handed to isinstance -/
theorem isiB {K : PySem.W.Frag} {H : Hp} {x : V} {a b : String} {r : Bool} {Q : VK} (ty : TyX K H x (.type a)) (k : kitB a b = some r) (q : Q (.bl r) H) : rIsi K [x, .ty b] H Q :=
  ⟨x, .ty b, .type a, .type b, r, rfl, .ty _, ty, kit_ty k, q⟩
/-- whether a thing is a whole number -/
def WholeIs (K : PySem.W.Frag) (H : Hp) (x : V) (b : Bool) : Prop := (∃ i, x = .int i ∧ b = true) ∨ (∃ c, x = .bl c ∧ b = false) ∨ (b = false ∧ ∃ t : String, TyX K H x (.type t) ∧ kitB t "int" = some false)
theorem WholeIs.int {K : PySem.W.Frag} {H : Hp} (i : Int) : WholeIs K H (.int i) true := .inl ⟨i, rfl, rfl⟩
def spWhole (K : PySem.W.Frag) : Sp := fun vs H Q _ => ∃ (x : V) (b : Bool), vs = [x] ∧ WholeIs K H x b ∧ Q (.bl b) H
/-! ### the mathematics of fractions in lowest terms -/
def gI (t b : Int) : Int := (Int.gcd t b : Nat)
def lowT (t b : Int) : Int := (if b < 0 then -t else t) / gI t b
def lowB (t b : Int) : Int := (if b < 0 then -b else b) / gI t b
theorem gI_neg (t b : Int) : gI (-t) (-b) = gI t b := by
  unfold gI
  rw [Int.neg_gcd, Int.gcd_neg]
theorem gI_pos {t b : Int} (h : b ≠ 0) : 0 < gI t b := by
  have : 0 < Int.gcd t b := Int.gcd_pos_of_ne_zero_right t h
  unfold gI
  omega
theorem gI_le {t b : Int} (h : b ≠ 0) : (gI t b).natAbs ≤ b.natAbs := by
  have d : Int.gcd t b ∣ b.natAbs := Nat.gcd_dvd_right t.natAbs b.natAbs
  have := Nat.le_of_dvd (by omega) d
  unfold gI
  omega
def spShared : Sp := fun vs H Q _ => ∃ t b : Int, vs = [.int t, .int b] ∧ 0 ≤ b ∧ Q (.int (gI t b)) H
def spLow : Sp := fun vs H Q _ => ∃ t b : Int, vs = [.int t, .int b] ∧ b ≠ 0 ∧ b.natAbs < 2 ^ 4000 ∧ ∀ p, H p = none → Q (.ref p) (upd H p (.tup [.int (lowT t b), .int (lowB t b)]))
/-- two fractions at two places; the tops and bottoms told by f and d -/
def spTwo (K : PySem.W.Frag) (pre : Int → Int → Int → Int → Prop) (f d : Int → Int → Int → Int → Int) : Sp := fun vs H Q _ => ∃ (a c : Addr) (t u v x : Int), vs = [.ref a, .ref c] ∧ SqT K H a [.int t, .int u] ∧ SqT K H c [.int v, .int x] ∧
  pre t u v x ∧ 0 < u ∧ 0 < x ∧ t.natAbs < 2 ^ 1900 ∧ u.natAbs < 2 ^ 1900 ∧ v.natAbs < 2 ^ 1900 ∧ x.natAbs < 2 ^ 1900 ∧ ∀ p, H p = none → Q (.ref p) (upd H p (.tup [.int (lowT (f t u v x) (d t u v x)), .int (lowB (f t u v x) (d t u v x))]))
def spUnder (K : PySem.W.Frag) : Sp := fun vs H Q _ => ∃ (a c : Addr) (t u v x : Int), vs = [.ref a, .ref c] ∧ SqT K H a [.int t, .int u] ∧ SqT K H c [.int v, .int x] ∧
  t.natAbs < 2 ^ 1900 ∧ u.natAbs < 2 ^ 1900 ∧ v.natAbs < 2 ^ 1900 ∧ x.natAbs < 2 ^ 1900 ∧ Q (.bl (decide (t * x < v * u))) H
def absI (t : Int) : Int := if t < 0 then -t else t
def spSize (K : PySem.W.Frag) : Sp := fun vs H Q _ => ∃ (a : Addr) (t u : Int), vs = [.ref a] ∧ SqT K H a [.int t, .int u] ∧ ∀ p, H p = none → Q (.ref p) (upd H p (.tup [.int (absI t), .int u]))
def twoT (m : Int) : Int := if m < 0 then 1 else 2 ^ m.toNat
def twoB (m : Int) : Int := if m < 0 then 2 ^ (-m).toNat else 1
def spTwoTo : Sp := fun vs H Q _ => ∃ m : Int, vs = [.int m] ∧ -400 ≤ m ∧ m ≤ 400 ∧ ∀ p, H p = none → Q (.ref p) (upd H p (.tup [.int (twoT m), .int (twoB m)]))
def spIsFrac : Sp := fun vs H Q _ => ∃ (a : Addr) (t u : Int), vs = [.ref a] ∧ H a = some (.tup [.int t, .int u]) ∧ 1 ≤ u ∧ Q (.bl (decide (gI t u = 1))) H
structure Zs (mg : Str → Option Value) : Prop where
  isinstance : mg "isinstance" = none
  int : mg "int" = none
  bool : mg "bool" = none
  tuple : mg "tuple" = none
  len : mg "len" = none
  abs : mg "abs" = none
  list : mg "list" = none
  range : mg "range" = none
  max : mg "max" = none
  sorted : mg "sorted" = none
  all : mg "all" = none
  zip : mg "zip" = none
  str : mg "str" = none

theorem kit2 {K : PySem.W.Frag} {t a b : String} {r1 r2 : Bool} (h1 : kitB t a = some r1) (h2 : kitB t b = some r2) : PySem.W.kitAny K (.type t) [.type a, .type b] = some (r1 || r2) := by
  refine kitAny_cons (kit_ty h1) (fun e => ?_) (fun e => ?_)
  · subst e
    refine kitAny_cons (kit_ty h2) (fun e => ?_) (fun e => ?_)
    · subst e
      rfl
    · subst e
      rfl
  · subst e
    rfl
/-- a thing that is no list and no tuple -/
inductive Flat : V → Prop where
  | int (i : Int) : Flat (.int i)
  | bl (b : Bool) : Flat (.bl b)
  | str (s : Str) : Flat (.str s)
  | non : Flat .non
/-- alike at a depth below n -/
def Al (H : Hp) : Nat → V → V → Prop
  | 0, _, _ => False
  | n + 1, x, y => (x = y ∧ Flat x) ∨ ∃ a c xs ys, x = .ref a ∧ y = .ref c ∧ xs.length = ys.length ∧ xs.length ≤ 1000 ∧ (∀ (i : Nat) u v, xs[i]? = some u → ys[i]? = some v → Al H n u v) ∧
      ((H a = some (.tup xs) ∧ H c = some (.tup ys)) ∨ (H a = some (.lst xs) ∧ H c = some (.lst ys)))
theorem Al.same {H H' : Hp} (s : Same H H') : ∀ (n : Nat) (x y : V), Al H n x y → Al H' n x y
  | 0, _, _, h => h
  | n + 1, x, y, h => by
    rcases h with h | ⟨a, c, xs, ys, e1, e2, l1, l2, al, hk⟩
    · exact .inl h
    · refine .inr ⟨a, c, xs, ys, e1, e2, l1, l2, fun i u v h1 h2 => Al.same s n u v (al i u v h1 h2), ?_⟩
      rcases hk with ⟨h1, h2⟩ | ⟨h1, h2⟩
      · exact .inl ⟨s _ _ h1, s _ _ h2⟩
      · exact .inr ⟨s _ _ h1, s _ _ h2⟩
theorem Al.more {H : Hp} : ∀ (n : Nat) (x y : V), Al H n x y → Al H (n + 1) x y
  | 0, _, _, h => False.elim h
  | n + 1, x, y, h => by
    rcases h with h | ⟨a, c, xs, ys, e1, e2, l1, l2, al, hk⟩
    · exact .inl h
    · exact .inr ⟨a, c, xs, ys, e1, e2, l1, l2, fun i u v h1 h2 => Al.more n u v (al i u v h1 h2), hk⟩
theorem Al.int {H : Hp} {n : Nat} (i : Int) : Al H (n + 1) (.int i) (.int i) := .inl ⟨rfl, .int i⟩
theorem Al.ints {H : Hp} {n : Nat} {a c : Addr} {ns : List Int} (hl : ns.length ≤ 1000) (h1 : H a = some (.lst (ns.map V.int))) (h2 : H c = some (.lst (ns.map V.int))) : Al H (n + 2) (.ref a) (.ref c) := by
  refine .inr ⟨a, c, _, _, rfl, rfl, rfl, by rw [List.length_map]; exact hl, fun i u v e1 e2 => ?_, .inr ⟨h1, h2⟩⟩
  have e := Option.some.inj (e1.symm.trans e2)
  subst e
  rw [List.getElem?_map] at e1
  obtain ⟨m, _, rfl⟩ := Option.map_eq_some_iff.mp e1
  exact Al.int m
def spSameN (n : Nat) : Sp := fun vs H Q _ => ∃ x y, vs = [x, y] ∧ Al H n x y ∧ ∀ H', Same H H' → Q (.bl true) H'
/-- two tuples beside each other: as many turns as the shorter one has places -/
theorem walk_zipT {K : PySem.W.Frag} {a b : Addr} {xs ys : List V} {n : Nat} (hn : n = min xs.length ys.length) : Walk (RZ.ItzT K a b) n (fun H => SqT K H a xs ∧ SqT K H b ys) (YPair (fun i => xs[i]?) (fun i => ys[i]?)) := by
  have less : ∀ i, i < n → i < xs.length ∧ i < ys.length := fun i hi => ⟨by omega, by omega⟩
  constructor
  · intro i G hi both
    obtain ⟨hx, hy⟩ := less i hi
    exact ⟨xs, ys, xs[i]'hx, ys[i]'hy, both.1, both.2, List.getElem?_eq_getElem hx, List.getElem?_eq_getElem hy⟩
  · intro G both
    exact ⟨xs, ys, both.1, both.2, by omega⟩
  · intro i G v G' hi both told
    obtain ⟨T, l, r, e1, e2, e3, gl, gr⟩ := told
    exact ⟨T, l, r, e1, e2, e3, gl _ both.1, gr _ both.2⟩
theorem rep_map (n : Nat) : (List.replicate n true).map V.bl = List.replicate n (V.bl true) := by rw [List.map_replicate]
theorem rep_all (n : Nat) : (List.replicate n true).all id = true := by
  rw [List.all_eq_true]
  intro x h
  exact (List.mem_replicate.mp h).2
theorem rep_more (n : Nat) : List.replicate n (V.bl true) ++ [V.bl true] = List.replicate (n + 1) (V.bl true) := by rw [List.replicate_succ']
/-! ### pairs that are still, and how far off they are -/
def offU (t b d E n : Int) : Int := absI (n * b - t * E) * d
def offI (t1 b1 t2 b2 E b c : Int) : Int := if offU t2 b2 b1 E c > offU t1 b1 b2 E b then offU t2 b2 b1 E c else offU t1 b1 b2 E b
def stillB (E b c : Int) : Bool := decide (absI c < E) && decide (absI b < E + c)
structure Wn (t1 b1 t2 b2 E : Int) : Prop where
  p1 : 0 < b1
  p2 : 0 < b2
  e : 1 ≤ E
  l2 : -b2 ≤ t2
  u2 : t2 ≤ b2
  u1 : t1 * b2 ≤ (b2 + t2) * b1
  l1 : -t1 * b2 ≤ (b2 + t2) * b1
theorem fl (x : Int) {b : Int} (h : 0 < b) : x / b * b ≤ x ∧ x < x / b * b + b := by
  have h1 := Int.emod_add_mul_ediv x b
  have h2 := Int.emod_nonneg x (show b ≠ 0 by omega)
  have h3 := Int.emod_lt_of_pos x h
  have e : x / b * b = b * (x / b) := Int.mul_comm _ _
  omega
theorem offU_le {t b d E n : Int} (hd : 0 < d) (h1 : n * b - t * E ≤ 2 * b) (h2 : -(2 * b) ≤ n * b - t * E) : offU t b d E n ≤ 2 * b * d := by
  unfold offU
  refine Int.mul_le_mul_of_nonneg_right ?_ (by omega)
  unfold absI
  split <;> omega
theorem offU_back {t b d E n : Int} (hb : 0 < b) (hd : 0 < d) (h : offU t b d E n ≤ 2 * b * d) : t * E / b - 2 ≤ n ∧ n ≤ t * E / b + 2 := by
  unfold offU at h
  have h1 : absI (n * b - t * E) ≤ 2 * b := Int.le_of_mul_le_mul_right h hd
  obtain ⟨f1, f2⟩ := fl (t * E) hb
  have h2 : n * b - t * E ≤ 2 * b ∧ -(2 * b) ≤ n * b - t * E := by
    unfold absI at h1
    split at h1 <;> omega
  generalize t * E / b = m at *
  constructor
  · have : (m - 2) * b ≤ n * b := by
      rw [Int.sub_mul]
      omega
    exact Int.le_of_mul_le_mul_right this hb
  · have : n * b < (m + 3) * b := by
      rw [Int.add_mul]
      omega
    have := Int.lt_of_mul_lt_mul_right this (by omega)
    omega
theorem offI_le {t1 b1 t2 b2 E b c B : Int} (h1 : offU t1 b1 b2 E b ≤ B) (h2 : offU t2 b2 b1 E c ≤ B) : offI t1 b1 t2 b2 E b c ≤ B := by
  unfold offI
  split <;> omega
theorem offI_ge (t1 b1 t2 b2 E b c : Int) : offU t1 b1 b2 E b ≤ offI t1 b1 t2 b2 E b c ∧ offU t2 b2 b1 E c ≤ offI t1 b1 t2 b2 E b c := by
  unfold offI
  split <;> omega
theorem off_grid {t1 b1 t2 b2 E b c : Int} (W : Wn t1 b1 t2 b2 E) (h : offI t1 b1 t2 b2 E b c ≤ 2 * b1 * b2) : (t1 * E / b1 - 2 ≤ b ∧ b ≤ t1 * E / b1 + 2) ∧ t2 * E / b2 - 2 ≤ c ∧ c ≤ t2 * E / b2 + 2 := by
  obtain ⟨h1, h2⟩ := offI_ge t1 b1 t2 b2 E b c
  refine ⟨offU_back W.p1 W.p2 (by omega), offU_back W.p2 W.p1 ?_⟩
  have e : 2 * b2 * b1 = 2 * b1 * b2 := by grind
  omega
theorem far_edge {X Y b1 b2 E c : Int} (p1 : 0 < b1) (p2 : 0 < b2) (h1 : X * b2 ≤ E * b1 * b2 + Y * b1) (h2 : Y ≤ c * b2 + b2) : X ≤ (E + c - 1) * b1 + 2 * b1 := by
  have h3 : Y * b1 ≤ (c * b2 + b2) * b1 := Int.mul_le_mul_of_nonneg_right h2 (by omega)
  have h4 : X * b2 ≤ ((E + c - 1) * b1 + 2 * b1) * b2 := by
    have e : ((E + c - 1) * b1 + 2 * b1) * b2 = E * b1 * b2 + (c * b2 + b2) * b1 := by grind
    omega
  exact Int.le_of_mul_le_mul_right h4 p2
theorem near_exists {t1 b1 t2 b2 E : Int} (W : Wn t1 b1 t2 b2 E) : ∃ b c, stillB E b c = true ∧ offI t1 b1 t2 b2 E b c ≤ 2 * b1 * b2 := by
  obtain ⟨p1, p2, e, l2, u2, u1, l1⟩ := W
  obtain ⟨f1, f2⟩ := fl (t2 * E) p2
  obtain ⟨g1, g2⟩ := fl (t1 * E) p1
  have yu : t2 * E ≤ E * b2 := by
    rw [Int.mul_comm E]
    exact Int.mul_le_mul_of_nonneg_right u2 (by omega)
  have yl : -E * b2 ≤ t2 * E := by
    have := Int.mul_le_mul_of_nonneg_right l2 (show 0 ≤ E by omega)
    have e1 : -b2 * E = -E * b2 := by grind
    omega
  have x1 : t1 * E * b2 ≤ E * b1 * b2 + t2 * E * b1 := by
    have := Int.mul_le_mul_of_nonneg_right u1 (show 0 ≤ E by omega)
    have e1 : t1 * b2 * E = t1 * E * b2 := by grind
    have e2 : (b2 + t2) * b1 * E = E * b1 * b2 + t2 * E * b1 := by grind
    omega
  have x2 : -(t1 * E) * b2 ≤ E * b1 * b2 + t2 * E * b1 := by
    have := Int.mul_le_mul_of_nonneg_right l1 (show 0 ≤ E by omega)
    have e1 : -t1 * b2 * E = -(t1 * E) * b2 := by grind
    have e2 : (b2 + t2) * b1 * E = E * b1 * b2 + t2 * E * b1 := by grind
    omega
  generalize hY : t2 * E = Y at *
  generalize hX : t1 * E = X at *
  have mu : Y / b2 ≤ E := by
    refine Int.le_of_mul_le_mul_right (a := b2) ?_ p2
    omega
  have ml : -E ≤ Y / b2 := by
    have h : -E * b2 < (Y / b2 + 1) * b2 := by
      rw [Int.add_mul]
      omega
    have := Int.lt_of_mul_lt_mul_right h (by omega)
    omega
  obtain ⟨c, c1, c2, c3, c4⟩ : ∃ c : Int, -E + 1 ≤ c ∧ c ≤ E - 1 ∧ Y ≤ c * b2 + b2 ∧ c * b2 ≤ Y + b2 := by
    by_cases h : Y / b2 + 1 ≤ E - 1
    · refine ⟨Y / b2 + 1, by omega, h, ?_, ?_⟩
      · rw [Int.add_mul]
        omega
      · rw [Int.add_mul]
        omega
    · have h' : (E - 1) * b2 ≤ Y / b2 * b2 := Int.mul_le_mul_of_nonneg_right (by omega) (by omega)
      have e1 : (E - 1) * b2 = E * b2 - b2 := by rw [Int.sub_mul, Int.one_mul]
      exact ⟨E - 1, by omega, by omega, by omega, by omega⟩
  have r1 := far_edge p1 p2 x1 c3
  have r2 := far_edge p1 p2 x2 c3
  obtain ⟨b, k1, k2, k3, k4⟩ : ∃ b : Int, -(E + c - 1) ≤ b ∧ b ≤ E + c - 1 ∧ b * b1 - X ≤ 2 * b1 ∧ -(2 * b1) ≤ b * b1 - X := by
    have r0 : 0 ≤ E + c - 1 := by omega
    generalize E + c - 1 = R at *
    by_cases h : R < X / b1
    · have h' : R * b1 ≤ X / b1 * b1 := Int.mul_le_mul_of_nonneg_right (by omega) (by omega)
      exact ⟨R, by omega, by omega, by omega, by omega⟩
    · by_cases h2 : X / b1 < -R
      · have h' : (X / b1 + 1) * b1 ≤ -R * b1 := Int.mul_le_mul_of_nonneg_right (by omega) (by omega)
        have e1 : -R * b1 = -(R * b1) := Int.neg_mul ..
        have e2 : (X / b1 + 1) * b1 = X / b1 * b1 + b1 := by rw [Int.add_mul, Int.one_mul]
        exact ⟨-R, by omega, by omega, by omega, by omega⟩
      · exact ⟨X / b1, by omega, by omega, by omega, by omega⟩
  refine ⟨b, c, ?_, offI_le (offU_le p2 (by rw [hX]; exact k3) (by rw [hX]; exact k4)) ?_⟩
  · unfold stillB absI
    rw [Bool.and_eq_true, decide_eq_true_eq, decide_eq_true_eq]
    constructor
    · split <;> omega
    · split <;> omega
  · have := offU_le (t := t2) (b := b2) (d := b1) (E := E) (n := c) p1 (by rw [hY]; omega) (by rw [hY]; omega)
    have e1 : 2 * b2 * b1 = 2 * b1 * b2 := by grind
    omega
/-! ### the ranked pairs -/
abbrev T3 := Int × Int × Int
def tr (t1 b1 t2 b2 E b c : Int) : T3 := (offI t1 b1 t2 b2 E b c, b, c)
/-- the k-th pair of the program's twenty-five -/
def gk (t1 b1 t2 b2 E : Int) (k : Nat) : T3 := tr t1 b1 t2 b2 E (t1 * E / b1 - 2 + (k / 5 : Nat)) (t2 * E / b2 - 2 + (k % 5 : Nat))
def lt3 (p q : T3) : Bool := !le3 q p
theorem lt3_lex (p q : T3) : HT.lexLt [p.1, p.2.1, p.2.2] [q.1, q.2.1, q.2.2] = lt3 p q := by
  unfold lt3 le3
  rw [HT.lexLt_cons, HT.lexLt_cons, HT.lexLt_cons, HT.lexLt_nil_nil]
  by_cases c1 : p.1 = q.1
  · rw [if_pos c1]
    by_cases c2 : p.2.1 = q.2.1
    · rw [if_pos c2]
      by_cases c3 : p.2.2 = q.2.2
      · rw [if_pos c3, decide_eq_true (by omega)]
        rfl
      · rw [if_neg c3]
        by_cases c4 : p.2.2 < q.2.2
        · rw [decide_eq_true c4, decide_eq_false (by omega)]
          rfl
        · rw [decide_eq_false c4, decide_eq_true (by omega)]
          rfl
    · rw [if_neg c2]
      by_cases c4 : p.2.1 < q.2.1
      · rw [decide_eq_true c4, decide_eq_false (by omega)]
        rfl
      · rw [decide_eq_false c4, decide_eq_true (by omega)]
        rfl
  · rw [if_neg c1]
    by_cases c4 : p.1 < q.1
    · rw [decide_eq_true c4, decide_eq_false (by omega)]
      rfl
    · rw [decide_eq_false c4, decide_eq_true (by omega)]
      rfl
theorem le3_anti {p q : T3} (h1 : le3 p q = true) (h2 : le3 q p = true) : p = q := by
  unfold le3 at *
  have a := of_decide_eq_true h1
  have b := of_decide_eq_true h2
  exact Prod.ext (by omega) (Prod.ext (by omega) (by omega))
theorem leW_anti {p q : Int × Int × Bool} (h1 : leW p q = true) (h2 : leW q p = true) : p = q := by
  unfold leW at *
  have a := of_decide_eq_true h1
  have b := of_decide_eq_true h2
  have e1 : p.1 = q.1 := by omega
  have e2 : p.2.1 = q.2.1 := by omega
  refine Prod.ext e1 (Prod.ext e2 ?_)
  rcases a with a | ⟨_, a | ⟨_, a⟩⟩
  · omega
  · omega
  · rcases b with b | ⟨_, b | ⟨_, b⟩⟩
    · omega
    · omega
    · cases hp : p.2.2 <;> cases hq : q.2.2
      · rfl
      · exact absurd (b hq) (by rw [hp]; decide)
      · exact absurd (a hp) (by rw [hq]; decide)
      · rfl
theorem first_true : ∀ bs : List Bool, true ∈ bs → ∃ j : Nat, bs[j]? = some true ∧ ∀ m, m < j → bs[m]? = some false
  | [], h => by cases h
  | true :: bs, _ => ⟨0, rfl, fun m h => absurd h (by omega)⟩
  | false :: bs, h => by
    obtain ⟨j, h1, h2⟩ := first_true bs (by simpa using h)
    refine ⟨j + 1, h1, fun m hm => ?_⟩
    cases m with
    | zero => rfl
    | succ m => exact h2 m (by omega)
theorem take_lt {R : List T3} {j : Nat} {h x : T3} (pw : R.Pairwise fun p q => le3 p q = true) (nd : R.Nodup) (hj : R[j]? = some h) : x ∈ R.take j ↔ x ∈ R ∧ lt3 x h = true := by
  obtain ⟨lj, ej⟩ := List.getElem?_eq_some_iff.mp hj
  constructor
  · intro hx
    refine ⟨List.mem_of_mem_take hx, ?_⟩
    obtain ⟨i, li, rfl⟩ := List.getElem_of_mem hx
    rw [List.length_take] at li
    have hi : i < j := by omega
    rw [List.getElem_take]
    have le := List.pairwise_iff_getElem.mp pw i j (by omega) lj hi
    have ne : R[i]'(by omega) ≠ R[j]'lj := List.pairwise_iff_getElem.mp nd i j (by omega) lj hi
    unfold lt3
    cases hh : le3 h (R[i]'(by omega)) with
    | false => rfl
    | true =>
      rw [ej] at ne le
      exact absurd (le3_anti le hh) ne
  · intro ⟨hx, lt⟩
    obtain ⟨i, li, rfl⟩ := List.getElem_of_mem hx
    by_cases c : i < j
    · rw [List.mem_take_iff_getElem]
      exact ⟨i, by omega, rfl⟩
    · exfalso
      have le : le3 h (R[i]'li) = true := by
        by_cases e : i = j
        · subst e
          rw [ej]
          unfold le3
          exact decide_eq_true (by omega)
        · have := List.pairwise_iff_getElem.mp pw j i lj li (by omega)
          rw [ej] at this
          exact this
      unfold lt3 at lt
      rw [le] at lt
      cases lt
theorem gk_nodup (t1 b1 t2 b2 E : Int) : ((List.range 25).map (gk t1 b1 t2 b2 E)).Nodup := by
  refine List.pairwise_map.mpr (List.Pairwise.imp (fun {x y} ne h => ne ?_) List.nodup_range)
  have h1 : t1 * E / b1 - 2 + (x / 5 : Nat) = t1 * E / b1 - 2 + (y / 5 : Nat) := congrArg (fun p : T3 => p.2.1) h
  have h2 : t2 * E / b2 - 2 + (x % 5 : Nat) = t2 * E / b2 - 2 + (y % 5 : Nat) := congrArg (fun p : T3 => p.2.2) h
  omega
theorem gk_mem {t1 b1 t2 b2 E : Int} {x : T3} : x ∈ (List.range 25).map (gk t1 b1 t2 b2 E) ↔ x = tr t1 b1 t2 b2 E x.2.1 x.2.2 ∧ (t1 * E / b1 - 2 ≤ x.2.1 ∧ x.2.1 ≤ t1 * E / b1 + 2) ∧ t2 * E / b2 - 2 ≤ x.2.2 ∧ x.2.2 ≤ t2 * E / b2 + 2 := by
  rw [List.mem_map]
  constructor
  · rintro ⟨k, hk, rfl⟩
    have := List.mem_range.mp hk
    refine ⟨rfl, ?_, ?_⟩
    · show t1 * E / b1 - 2 ≤ t1 * E / b1 - 2 + (k / 5 : Nat) ∧ t1 * E / b1 - 2 + (k / 5 : Nat) ≤ t1 * E / b1 + 2
      omega
    · show t2 * E / b2 - 2 ≤ t2 * E / b2 - 2 + (k % 5 : Nat) ∧ t2 * E / b2 - 2 + (k % 5 : Nat) ≤ t2 * E / b2 + 2
      omega
  · rintro ⟨e, h1, h2⟩
    refine ⟨(x.2.1 - (t1 * E / b1 - 2)).toNat * 5 + (x.2.2 - (t2 * E / b2 - 2)).toNat, List.mem_range.mpr (by omega), Eq.trans ?_ e.symm⟩
    unfold gk
    have e1 : t1 * E / b1 - 2 + (((x.2.1 - (t1 * E / b1 - 2)).toNat * 5 + (x.2.2 - (t2 * E / b2 - 2)).toNat) / 5 : Nat) = x.2.1 := by omega
    have e2 : t2 * E / b2 - 2 + (((x.2.1 - (t1 * E / b1 - 2)).toNat * 5 + (x.2.2 - (t2 * E / b2 - 2)).toNat) % 5 : Nat) = x.2.2 := by omega
    rw [e1, e2]
/-- what is told: the nearest still pair, and all pairs ahead of it, sorted -/
structure NearIs (t1 b1 t2 b2 E bB cB : Int) (rows : List (Int × Int × Bool)) : Prop where
  st : stillB E bB cB = true
  off : offI t1 b1 t2 b2 E bB cB ≤ 2 * b1 * b2
  pw : rows.Pairwise fun p q => leW p q = true
  nd : rows.Nodup
  len : rows.length ≤ 25
  mem : ∀ b c t, (b, c, t) ∈ rows ↔ lt3 (tr t1 b1 t2 b2 E b c) (tr t1 b1 t2 b2 E bB cB) = true ∧ t = decide (¬ absI c < E)
  no : ∀ b c, lt3 (tr t1 b1 t2 b2 E b c) (tr t1 b1 t2 b2 E bB cB) = true → stillB E b c = false
theorem near_ranked {t1 b1 t2 b2 E : Int} (W : Wn t1 b1 t2 b2 E) {R : List T3} (pm : R.Perm ((List.range 25).map (gk t1 b1 t2 b2 E))) (pw : R.Pairwise fun p q => le3 p q = true) :
    ∃ (j : Nat) (h : T3), R[j]? = some h ∧ stillB E h.2.1 h.2.2 = true ∧ (∀ m x, m < j → R[m]? = some x → stillB E x.2.1 x.2.2 = false) ∧
      ∀ rows : List (Int × Int × Bool), rows.Perm ((R.take j).map fun x => (x.2.1, x.2.2, decide (¬ absI x.2.2 < E))) → rows.Pairwise (fun p q => leW p q = true) → NearIs t1 b1 t2 b2 E h.2.1 h.2.2 rows := by
  have nd : R.Nodup := pm.nodup_iff.mpr (gk_nodup t1 b1 t2 b2 E)
  have mem : ∀ x, x ∈ R ↔ _ := fun x => (pm.mem_iff (a := x)).trans gk_mem
  obtain ⟨b0, c0, s0, o0⟩ := near_exists W
  have in0 : tr t1 b1 t2 b2 E b0 c0 ∈ R := (mem _).mpr ⟨rfl, off_grid W o0⟩
  obtain ⟨j, hj, hb⟩ := first_true (R.map fun x => stillB E x.2.1 x.2.2) (List.mem_map.mpr ⟨_, in0, s0⟩)
  rw [List.getElem?_map] at hj
  obtain ⟨h, hR, hs⟩ := Option.map_eq_some_iff.mp hj
  have ahead : ∀ m x, m < j → R[m]? = some x → stillB E x.2.1 x.2.2 = false := fun m x hm hx => by
    have := hb m hm
    rw [List.getElem?_map, hx] at this
    exact Option.some.inj this
  have hmem : h ∈ R := List.mem_of_getElem? hR
  obtain ⟨eh, _⟩ := (mem h).mp hmem
  have tk : ∀ x, x ∈ R.take j ↔ x ∈ R ∧ lt3 x h = true := fun x => take_lt pw nd hR
  have nst : ∀ x, x ∈ R.take j → stillB E x.2.1 x.2.2 = false := fun x hx => by
    obtain ⟨i, li, rfl⟩ := List.getElem_of_mem hx
    rw [List.length_take] at li
    rw [List.getElem_take]
    exact ahead i _ (by omega) (List.getElem?_eq_getElem _)
  have ho : offI t1 b1 t2 b2 E h.2.1 h.2.2 ≤ 2 * b1 * b2 := by
    by_cases c : lt3 (tr t1 b1 t2 b2 E b0 c0) h = true
    · have := nst _ ((tk _).mpr ⟨in0, c⟩)
      rw [show stillB E (tr t1 b1 t2 b2 E b0 c0).2.1 (tr t1 b1 t2 b2 E b0 c0).2.2 = true from s0] at this
      cases this
    · unfold lt3 at c
      have c' : le3 h (tr t1 b1 t2 b2 E b0 c0) = true := by
        cases hh : le3 h (tr t1 b1 t2 b2 E b0 c0) with
        | true => rfl
        | false => rw [hh] at c; exact absurd rfl c
      unfold le3 at c'
      have a := of_decide_eq_true c'
      rw [eh] at a
      have a2 : offI t1 b1 t2 b2 E h.2.1 h.2.2 ≤ offI t1 b1 t2 b2 E b0 c0 := by
        have a3 : offI t1 b1 t2 b2 E h.2.1 h.2.2 < offI t1 b1 t2 b2 E b0 c0 ∨ offI t1 b1 t2 b2 E h.2.1 h.2.2 = offI t1 b1 t2 b2 E b0 c0 ∧ _ := a
        rcases a3 with a3 | ⟨a3, _⟩ <;> omega
      omega
  have full : ∀ b c, lt3 (tr t1 b1 t2 b2 E b c) h = true ↔ tr t1 b1 t2 b2 E b c ∈ R.take j := fun b c => by
    rw [tk]
    constructor
    · intro lt
      refine ⟨(mem _).mpr ⟨rfl, off_grid (b := b) (c := c) W ?_⟩, lt⟩
      unfold lt3 le3 at lt
      rw [eh] at lt
      have a := of_decide_eq_false (Bool.not_eq_true' _ ▸ lt)
      have a2 : ¬ (offI t1 b1 t2 b2 E h.2.1 h.2.2 < offI t1 b1 t2 b2 E b c) := fun z => a (.inl z)
      omega
    · exact fun z => z.2
  refine ⟨j, h, hR, hs, ahead, fun rows pr pwr => ?_⟩
  have inj : ((R.take j).map fun x => (x.2.1, x.2.2, decide (¬ absI x.2.2 < E))).Nodup := by
    refine List.pairwise_map.mpr ?_
    refine List.Pairwise.imp_of_mem (fun {x y} hx hy ne => ?_) (nd.sublist (List.take_sublist j R))
    intro e
    have ex := ((mem x).mp (List.mem_of_mem_take hx)).1
    have ey := ((mem y).mp (List.mem_of_mem_take hy)).1
    have e1 : x.2.1 = y.2.1 := congrArg (fun p : Int × Int × Bool => p.1) e
    have e2 : x.2.2 = y.2.2 := congrArg (fun p : Int × Int × Bool => p.2.1) e
    refine ne ?_
    rw [ex, ey, e1, e2]
  have memR : ∀ b c t, (b, c, t) ∈ rows ↔ lt3 (tr t1 b1 t2 b2 E b c) h = true ∧ t = decide (¬ absI c < E) := fun b c t => by
    rw [pr.mem_iff, List.mem_map, full]
    constructor
    · rintro ⟨x, hx, e⟩
      have ex := ((mem x).mp (List.mem_of_mem_take hx)).1
      have e1 : x.2.1 = b := congrArg (fun p : Int × Int × Bool => p.1) e
      have e2 : x.2.2 = c := congrArg (fun p : Int × Int × Bool => p.2.1) e
      have e3 : decide (¬ absI x.2.2 < E) = t := congrArg (fun p : Int × Int × Bool => p.2.2) e
      rw [← e1, ← e2, ← ex]
      exact ⟨hx, e3.symm⟩
    · rintro ⟨hx, rfl⟩
      exact ⟨_, hx, rfl⟩
  have lenR : R.length = 25 := by
    rw [pm.length_eq, List.length_map, List.length_range]
  have eh' : tr t1 b1 t2 b2 E h.2.1 h.2.2 = h := eh.symm
  refine ⟨hs, ho, pwr, pr.nodup_iff.mpr inj, ?_, fun b c t => ?_, fun b c lt => ?_⟩
  · rw [pr.length_eq, List.length_map, List.length_take]
    omega
  · rw [eh']
    exact memR b c t
  · rw [eh'] at lt
    exact nst _ ((full b c).mp lt)
/-- rows that are told by the same words are the same -/
theorem rows_same {p q : List (Int × Int × Bool)} (hp : p.Pairwise fun x y => leW x y = true) (hq : q.Pairwise fun x y => leW x y = true) (np : p.Nodup) (nq : q.Nodup) (h : ∀ x, x ∈ p ↔ x ∈ q) : p = q :=
  List.Perm.eq_of_pairwise (fun _ _ _ _ h1 h2 => leW_anti h1 h2) hp hq ((List.perm_ext_iff_of_nodup np nq).mpr h)

end E1

namespace E1
open PySem PySem.Spec PyProof.Rows L2
theorem up {x : Nat} {a b : Nat} (h : x < 2 ^ a) (l : a ≤ b) : x < 2 ^ b := Nat.lt_of_lt_of_le h (Nat.pow_le_pow_right (by decide) l)
theorem same_but {H H1 H2 : Hp} {p : Addr} (s : Same H H1) (b : SameBut p H1 H2) (hp : H p = none) : Same H H2 := fun a o e => b a o (ne_of_none e hp) (s a o e)
theorem Same.free {H H' : Hp} {p : Addr} (s : Same H H') (h : H' p = none) : H p = none := by
  cases e : H p with
  | none => rfl
  | some o =>
    rw [s _ _ e] at h
    cases h

/-- a walk, by what a turn asks: the word of a comprehension that has two fors -/
theorem walk_w {J : It} {n : Nat} {G : Hp → Prop} {Y : Nat → Hp → V → Hp → Prop} (wk : Walk J n G Y) {T : V → Hp → (Hp → Prop) → Prop} {H0 : Hp} {Qd : Hp → Prop} (Pv : Nat → Hp → Prop) (h0 : Pv 0 H0) (hG : ∀ i H, i ≤ n → Pv i H → G H)
    (hs : ∀ i x H H', i < n → Pv i H → Y i H x H' → T x H' (Pv (i + 1))) (hd : ∀ H, Pv n H → Qd H) :
    ∃ W : Nat → Nat → Hp → Prop, (∃ m, W 0 m H0) ∧ ∀ i m H, W i m H → (J.stop i H ∧ Qd H) ∨ (J.go i H ∧ ∃ Nx : Hp → Prop, (∀ H', Nx H' → ∃ m', m' < m ∧ W (i + 1) m' H') ∧ ∀ x H', J.yld i H x H' → T x H' Nx) := by
  refine ⟨fun i m G' => i + m = n ∧ Pv i G', ⟨n, Nat.zero_add n, h0⟩, fun i m G' ⟨e, p⟩ => ?_⟩
  have good := hG i G' (by omega) p
  cases m with
  | zero =>
    have e' : i = n := by omega
    subst e'
    exact .inl ⟨wk.stops G' good, hd G' p⟩
  | succ m =>
    have hi : i < n := by omega
    exact .inr ⟨wk.goes i G' hi good, Pv (i + 1), fun G2 p2 => ⟨m, by omega, by omega, p2⟩, fun x G2 y => hs i x G' G2 hi p (wk.yields i G' x G2 hi good y)⟩
theorem cut_take (xs : List V) (j : Nat) (h : j ≤ xs.length) : cutV xs none (some (j : Int)) = xs.take j := by
  unfold cutV
  have e1 : HT.sIx xs.length 0 none = 0 := rfl
  have e2 : HT.sIx xs.length xs.length (some (j : Int)) = j := by
    unfold HT.sIx
    simp only
    split <;> omega
  rw [e1, e2, List.drop_zero, Nat.sub_zero]
/-! ### tuples of three in the heap -/
def At3 (H : Hp) (p : V × T3) : Prop := ∃ r, p.1 = .ref r ∧ H r = some (.tup [.int p.2.1, .int p.2.2.1, .int p.2.2.2])
def AtW (H : Hp) (p : V × Int × Int × Bool) : Prop := ∃ r, p.1 = .ref r ∧ H r = some (.tup [.int p.2.1, .int p.2.2.1, .str (wS p.2.2.2)])
theorem At3.same {H H' : Hp} {p : V × T3} (h : At3 H p) (s : Same H H') : At3 H' p := by
  obtain ⟨r, e, h⟩ := h
  exact ⟨r, e, s _ _ h⟩
theorem AtW.same {H H' : Hp} {p : V × Int × Int × Bool} (h : AtW H p) (s : Same H H') : AtW H' p := by
  obtain ⟨r, e, h⟩ := h
  exact ⟨r, e, s _ _ h⟩
theorem At3.upd {H : Hp} {p : V × T3} {D : Addr} {us vs : List V} (h : At3 H p) (hD : H D = some (.lst us)) : At3 (upd H D (.lst vs)) p := by
  obtain ⟨r, e, h⟩ := h
  refine ⟨r, e, ?_⟩
  rw [upd_ne (ne_of h hD (fun z => nomatch z))]
  exact h
theorem AtW.upd {H : Hp} {p : V × Int × Int × Bool} {D : Addr} {us vs : List V} (h : AtW H p) (hD : H D = some (.lst us)) : AtW (upd H D (.lst vs)) p := by
  obtain ⟨r, e, h⟩ := h
  refine ⟨r, e, ?_⟩
  rw [upd_ne (ne_of h hD (fun z => nomatch z))]
  exact h
theorem At3.dp {K : PySem.W.Frag} {H : Hp} {p : V × T3} (h : At3 H p) : Dp K H p.1 (enc3 p.2) := by
  obtain ⟨r, e, h⟩ := h
  rw [e]
  exact .tup (SqT.of h) (.cons (.int _) (.cons (.int _) (.cons (.int _) .nil)))
theorem AtW.dp {K : PySem.W.Frag} {H : Hp} {p : V × Int × Int × Bool} (h : AtW H p) : Dp K H p.1 (encW p.2) := by
  obtain ⟨r, e, h⟩ := h
  rw [e]
  exact .tup (SqT.of h) (.cons (.int _) (.cons (.int _) (.cons (.str _) .nil)))
/-- a list of rows -/
def RowsAt (H : Hp) (L : Addr) (rows : List (Int × Int × Bool)) : Prop := ∃ ps : List (V × Int × Int × Bool), H L = some (.lst (ps.map (·.1))) ∧ (∀ p ∈ ps, AtW H p) ∧ ps.map (·.2) = rows
theorem RowsAt.same {H H' : Hp} {L : Addr} {rows : List (Int × Int × Bool)} (h : RowsAt H L rows) (s : Same H H') : RowsAt H' L rows := by
  obtain ⟨ps, e, h, e2⟩ := h
  exact ⟨ps, s _ _ e, fun p hp => (h p hp).same s, e2⟩
theorem RowsAt.al {H : Hp} {L M : Addr} {rows : List (Int × Int × Bool)} (n : Nat) (hl : rows.length ≤ 1000) (h : RowsAt H L rows) (g : RowsAt H M rows) : Al H (n + 3) (.ref L) (.ref M) := by
  obtain ⟨ps, e1, h1, r1⟩ := h
  obtain ⟨qs, e2, h2, r2⟩ := g
  have len : ps.length = qs.length := by
    have a := congrArg List.length r1
    have b := congrArg List.length r2
    rw [List.length_map] at a b
    omega
  have lr := congrArg List.length r1
  rw [List.length_map] at lr
  refine .inr ⟨L, M, _, _, rfl, rfl, by rw [List.length_map, List.length_map, len], by rw [List.length_map]; omega, fun i u v eu ev => ?_, .inr ⟨e1, e2⟩⟩
  rw [List.getElem?_map] at eu ev
  obtain ⟨p, hp, rfl⟩ := Option.map_eq_some_iff.mp eu
  obtain ⟨q, hq, rfl⟩ := Option.map_eq_some_iff.mp ev
  have pq : p.2 = q.2 := by
    have a : rows[i]? = some p.2 := by rw [← r1, List.getElem?_map, hp]; rfl
    have b : rows[i]? = some q.2 := by rw [← r2, List.getElem?_map, hq]; rfl
    exact Option.some.inj (a.symm.trans b)
  obtain ⟨r, ep, hr⟩ := h1 p (List.mem_of_getElem? hp)
  obtain ⟨s, eq, hs⟩ := h2 q (List.mem_of_getElem? hq)
  rw [← pq] at hs
  rw [ep, eq]
  refine .inr ⟨r, s, _, _, rfl, rfl, rfl, (by show 3 ≤ 1000; decide), fun i u v eu ev => ?_, .inl ⟨hr, hs⟩⟩
  have e := Option.some.inj (eu.symm.trans ev)
  subst e
  match i, eu with
  | 0, eu => cases eu; exact Al.int _
  | 1, eu => cases eu; exact Al.int _
  | 2, eu => cases eu; exact .inl ⟨rfl, .str _⟩
  | i + 3, eu => cases eu
def spPlace : Sp := fun vs H Q _ => ∃ n m : Int, vs = [.int n, .int m] ∧ 0 ≤ n ∧ n < m ∧ Q (.bl true) H
/-- two fractions that are wanted at a point, not too great -/
structure Wd (H : Hp) (p1 p2 : Addr) (t1 b1 t2 b2 E : Int) : Prop where
  a1 : H p1 = some (.tup [.int t1, .int b1])
  a2 : H p2 = some (.tup [.int t2, .int b2])
  g1 : gI t1 b1 = 1
  g2 : gI t2 b2 = 1
  wn : Wn t1 b1 t2 b2 E
  s1 : t1.natAbs < 2 ^ 40
  s2 : b1.natAbs < 2 ^ 40
  s3 : t2.natAbs < 2 ^ 40
  s4 : b2.natAbs < 2 ^ 40
  eE : E ≤ 2 ^ 20
theorem Wd.same {H H' : Hp} {p1 p2 : Addr} {t1 b1 t2 b2 E : Int} (h : Wd H p1 p2 t1 b1 t2 b2 E) (s : Same H H') : Wd H' p1 p2 t1 b1 t2 b2 E :=
  ⟨s _ _ h.a1, s _ _ h.a2, h.g1, h.g2, h.wn, h.s1, h.s2, h.s3, h.s4, h.eE⟩
def spWanted : Sp := fun vs H Q _ => ∃ (p1 p2 : Addr) (t1 b1 t2 b2 E : Int), vs = [.ref p1, .ref p2] ∧ Wd H p1 p2 t1 b1 t2 b2 E ∧ ∀ H', Same H H' → Q (.bl true) H'
def spStill : Sp := fun vs H Q _ => ∃ b c E : Int, vs = [.int b, .int c, .int E] ∧ Q (.bl (stillB E b c)) H
def spNrs (K : PySem.W.Frag) : Sp := fun vs H Q _ => ∃ (p : Addr) (t b E : Int), vs = [.ref p, .int E] ∧ SqT K H p [.int t, .int b] ∧ 0 < b ∧ b.natAbs < 2 ^ 40 ∧ t.natAbs < 2 ^ 40 ∧ 1 ≤ E ∧ E ≤ 2 ^ 20 ∧ ∀ q, H q = none → Q (.ref q) (upd H q (.lst (rgV (t * E / b - 2) (t * E / b + 2 + 1))))
def spFar (K : PySem.W.Frag) : Sp := fun vs H Q _ => ∃ (p : Addr) (n t b E d : Int), vs = [.int n, .ref p, .int E, .int d] ∧ SqT K H p [.int t, .int b] ∧ b.natAbs < 2 ^ 40 ∧ d.natAbs < 2 ^ 40 ∧ 1 ≤ E ∧ E ≤ 2 ^ 20 ∧ Q (.int (offU t b d E n)) H
def spNear : Sp := fun vs H Q _ => ∃ (p1 p2 : Addr) (s t1 b1 t2 b2 : Int), vs = [.ref p1, .ref p2, .int s] ∧ 0 ≤ s ∧ s ≤ 20 ∧ Wd H p1 p2 t1 b1 t2 b2 (2 ^ s.toNat) ∧
  ∀ (r M : Addr) (bB cB : Int) (rows : List (Int × Int × Bool)) (H' : Hp), H r = none → H M = none → M ≠ r → Same H H' → H' r = some (.tup [.int bB, .int cB, .ref M]) → RowsAt H' M rows → NearIs t1 b1 t2 b2 (2 ^ s.toNat) bB cB rows → Q (.ref r) H'
theorem wanted_ok {t1 b1 t2 b2 E : Int} (W : Wn t1 b1 t2 b2 E) : ¬ (lowT (1 * b2 + t2 * 1) (1 * b2) * b1 < absI t1 * lowB (1 * b2 + t2 * 1) (1 * b2)) := by
  obtain ⟨p1, p2, e, l2, u2, u1, l1⟩ := W
  have e1 : 1 * b2 + t2 * 1 = b2 + t2 := by omega
  rw [e1, Int.one_mul]
  have g0 := gI_pos (t := b2 + t2) (b := b2) (by omega)
  have d1 : gI (b2 + t2) b2 ∣ b2 + t2 := Int.gcd_dvd_left ..
  have d2 : gI (b2 + t2) b2 ∣ b2 := Int.gcd_dvd_right ..
  have m1 : lowT (b2 + t2) b2 * gI (b2 + t2) b2 = b2 + t2 := by
    unfold lowT
    rw [if_neg (by omega)]
    exact Int.ediv_mul_cancel d1
  have m2 : lowB (b2 + t2) b2 * gI (b2 + t2) b2 = b2 := by
    unfold lowB
    rw [if_neg (by omega)]
    exact Int.ediv_mul_cancel d2
  intro h
  have h2 := Int.mul_lt_mul_of_pos_right h g0
  have a1 : lowT (b2 + t2) b2 * b1 * gI (b2 + t2) b2 = (b2 + t2) * b1 := by
    rw [Int.mul_right_comm, m1]
  have a2 : absI t1 * lowB (b2 + t2) b2 * gI (b2 + t2) b2 = absI t1 * b2 := by
    rw [Int.mul_assoc, m2]
  rw [a1, a2] at h2
  unfold absI at h2
  split at h2 <;> omega
theorem rg5 (a : Int) (i : Nat) (h : i < 5) : (rgV (a - 2) (a + 2 + 1))[i]? = some (.int (a - 2 + i)) := by
  unfold rgV
  rw [List.getElem?_map, List.getElem?_range (by omega)]
  rfl
theorem rg5_len (a : Int) : (rgV (a - 2) (a + 2 + 1)).length = 5 := by
  rw [rgV_length]
  omega

end E1

namespace E1
open PySem PySem.Spec PyProof.Rows L2
section
variable {P : Program} {w : World} {K : PySem.W.Frag} {mg : Str → Option Value} {base : Heap}
theorem sc_is_whole : FnScope ["thing"] ["thing"] (defScope s_is_whole) := ⟨rfl, rfl, rfl, by decide +kernel, rfl, by decide +kernel, by decide +kernel⟩
theorem ok_is_whole {f : Addr} {fd : FuncData} {k : Nat} (F : Fun K "is_whole" "is_whole" s_is_whole f fd) (z : Zs mg) : FnOk P w K mg base CX0 (k + 1) f fd ["thing"] (spWhole K) := by
  refine F.ok sc_is_whole (fun vs H Q E h => ?_) (fun cdv A outer s H vs Q E hr h => ?_)
  · obtain ⟨x, b, rfl, _⟩ := h
    rfl
  · obtain ⟨x, b, rfl, hw, q⟩ := h
    refine ⟨_, (pss_one (ps_ret (pe_and (pe_callB call_isi (by rfl) z.isinstance (by decide +kernel) (pa_cons (pv 0) (pa_cons (pe_bltn (v := .ty "int") (by rfl) z.int (by decide +kernel) rfl) pa_nil))) (pe_one (pe_not (pe_callB call_isi (by rfl) z.isinstance (by decide +kernel) (pa_cons (pv 0) (pa_cons (pe_bltn (v := .ty "bool") (by rfl) z.bool (by decide +kernel) rfl) pa_nil)))))))), ?_⟩
    rcases hw with ⟨i, rfl, rfl⟩ | ⟨c, rfl, rfl⟩ | ⟨rfl, t, ty, kt⟩
    · exact ⟨_, rfl, _, .ty "int", _, _, true, rfl, .ty _, .base (.int i), kit_ty (by decide +kernel), _, rfl, iteT ⟨_, rfl, _, .ty "bool", _, _, false, rfl, .ty _, .base (.int i), kit_ty (by decide +kernel), _, rfl, q⟩⟩
    · exact ⟨_, rfl, _, .ty "int", _, _, true, rfl, .ty _, .base (.bl c), kit_ty (by decide +kernel), _, rfl, iteT ⟨_, rfl, _, .ty "bool", _, _, true, rfl, .ty _, .base (.bl c), kit_ty (by decide +kernel), _, rfl, q⟩⟩
    · exact ⟨_, rfl, _, .ty "int", _, _, false, rfl, .ty _, ty, kit_ty kt, _, rfl, iteF q⟩
theorem sc_shared_divisor : FnScope ["top", "bottom", "one", "other"] ["top", "bottom"] (defScope s_shared_divisor) := ⟨rfl, rfl, rfl, by decide +kernel, rfl, by decide +kernel, by decide +kernel⟩
theorem ok_shared_divisor {f : Addr} {fd : FuncData} {k : Nat} (F : Fun K "shared_divisor" "shared_divisor" s_shared_divisor f fd) (z : Zs mg) : FnOk P w K mg base CX0 (k + 1) f fd ["top", "bottom"] spShared := by
  refine F.ok sc_shared_divisor (fun vs H Q E h => ?_) (fun cdv A outer s H vs Q E hr h => ?_)
  · obtain ⟨t, b, rfl, _⟩ := h
    rfl
  · obtain ⟨t, b, rfl, hb, q⟩ := h
    refine ⟨_, (pss_cons (ps_set (i := 2) sc_shared_divisor.nd rfl (.inl rfl) (pe_callB call_abs (by rfl) z.abs (by decide +kernel) (pa_cons (pv 0) pa_nil)))
      (pss_cons (ps_set (i := 3) sc_shared_divisor.nd rfl (.inl rfl) (pv 1))
      (pss_cons (ps_while PassesOwn.never (pt_truth (pv 3) (by intro _; rfl)) (pss_one (ps_par (i := 2) (j := 3) (by rfl) sc_shared_divisor.nd rfl rfl (by decide) rfl rfl (pa_cons (pv 3) (pa_cons (pe_op op_mod (pv 2) (pv 3)) pa_nil)) (by rfl))))
      (pss_one (ps_ret (pv 2)))))), ?_⟩
    refine ⟨_, rfl, _, rfl, ?_⟩
    refine ⟨_, rfl, ?_⟩
    dsimp only [gName, tSeq]
    refine while_by (fun σ H' => H' = H ∧ ∃ m n : Nat, σ = [some (.int t), some (.int b), some (.int (m : Int)), some (.int (n : Int))] ∧ Nat.gcd m n = Int.gcd t b)
      (fun σ _ => match σ with | [_, _, _, some (.int r)] => r.toNat | _ => 0) ⟨rfl, t.natAbs, b.natAbs, ?_, rfl⟩ (fun σ H1 hP => ?_) (fun σ H Q Q' m hh => ?_)
    · have e1 : (if t < 0 then -t else t) = (t.natAbs : Int) := by split <;> omega
      have e2 : b = (b.natAbs : Int) := by omega
      show [some (V.int t), some (V.int b), some (V.int (if t < 0 then -t else t)), some (V.int b)] = _
      rw [e1, ← e2]
    · obtain ⟨rfl, m, n, rfl, hg⟩ := hP
      refine ⟨_, rfl, _, rfl, ?_⟩
      by_cases hn : n = 0
      · subst hn
        have e : ((((0 : Nat) : Int)) != 0) = false := rfl
        rw [e]
        refine iteF ⟨_, rfl, ?_⟩
        rw [Nat.gcd_zero_right] at hg
        have e2 : (m : Int) = gI t b := by
          unfold gI
          rw [hg]
        rw [e2]
        exact q
      · have e : ((n : Int) != 0) = true := by
          rw [bne_iff_ne]
          omega
        rw [e]
        refine iteT ⟨_, rfl, _, rfl, _, rfl, _, _, rfl, rfl, (by omega), _, _, rfl, ⟨⟨rfl, n, m % n, rfl, ?_⟩, ?_⟩⟩
        · rw [← hg, Nat.gcd_comm n (m % n), ← Nat.gcd_rec n m, Nat.gcd_comm]
        · show ((m : Int) % (n : Int)).toNat < ((n : Int)).toNat
          have := Int.emod_lt_of_pos (m : Int) (show (0 : Int) < n by omega)
          have := Int.emod_nonneg (m : Int) (show (n : Int) ≠ 0 by omega)
          omega
    · obtain ⟨v, e, kk, tv, hq⟩ := hh
      exact ⟨v, e, kk, tv, m _ _ hq⟩
theorem sc_lowest : FnScope ["top", "bottom", "shared"] ["top", "bottom"] (defScope s_lowest) := ⟨rfl, rfl, rfl, by decide +kernel, rfl, by decide +kernel, by decide +kernel⟩
theorem ok_lowest {f : Addr} {fd : FuncData} (F : Fun K "lowest" "lowest" s_lowest f fd) (c_shared_divisor : Cal P w K mg base 1 "shared_divisor" ["top", "bottom"] spShared) : FnOk P w K mg base CX0 2 f fd ["top", "bottom"] spLow := by
  refine F.ok sc_lowest (fun vs H Q E h => ?_) (fun cdv A outer s H vs Q E hr h => ?_)
  · obtain ⟨t, b, rfl, _⟩ := h
    rfl
  · obtain ⟨t, b, rfl, hb, hl, q⟩ := h
    refine ⟨_, (pss_cons (ps_if (pt_cmpR op_lt (pv 1) pe_int (nomark _)) (pss_cons (ps_set (i := 0) sc_lowest.nd rfl (.inl rfl) (pe_un un_neg (pv 0)))
      (pss_one (ps_set (i := 1) sc_lowest.nd rfl (.inl rfl) (pe_un un_neg (pv 1))))) pss_nil)
      (pss_cons (ps_set (i := 2) sc_lowest.nd rfl (.inl rfl) (pe_cal c_shared_divisor hr (pa_cons (pv 0) (pa_cons (pv 1) pa_nil))))
      (pss_one (ps_ret (pe_tup (pa_cons (pe_op op_fdivW (pv 0) (pv 2)) (pa_cons (pe_op op_fdivW (pv 1) (pv 2)) pa_nil))))))), ?_⟩
    have g0 := gI_pos (t := t) hb
    have g1 : (gI t b).natAbs < 2 ^ 4000 := Nat.lt_of_le_of_lt (gI_le hb) hl
    refine ⟨_, rfl, _, _, rfl, rfl, _, rfl, ite2 (fun c => ?_) (fun c => ?_)⟩
    · have hc := toB c
      refine ⟨_, rfl, _, rfl, ?_⟩
      refine ⟨_, rfl, _, rfl, ?_⟩
      refine ⟨_, rfl, _, rfl, -t, -b, rfl, by omega, ?_⟩
      rw [gI_neg]
      refine ⟨_, rfl, _, rfl, _, _, rfl, rfl, wide_div g0 g1 (by decide) (by decide), _, rfl, _, rfl, _, _, rfl, rfl, wide_div g0 g1 (by decide) (by decide), (by show 2 ≤ sizeLine; decide), fun p hp => ?_⟩
      have := q p hp
      unfold lowT lowB at this
      rw [if_pos hc, if_pos hc] at this
      exact this
    · have hc := toNB c
      refine ⟨_, rfl, _, rfl, t, b, rfl, by omega, ?_⟩
      refine ⟨_, rfl, _, rfl, _, _, rfl, rfl, wide_div g0 g1 (by decide) (by decide), _, rfl, _, rfl, _, _, rfl, rfl, wide_div g0 g1 (by decide) (by decide), (by show 2 ≤ sizeLine; decide), fun p hp => ?_⟩
      have := q p hp
      unfold lowT lowB at this
      rw [if_neg hc, if_neg hc] at this
      exact this
theorem sc_plus : FnScope ["one", "other"] ["one", "other"] (defScope s_plus) := ⟨rfl, rfl, rfl, by decide +kernel, rfl, by decide +kernel, by decide +kernel⟩
theorem ok_plus {f : Addr} {fd : FuncData} (F : Fun K "plus" "plus" s_plus f fd) (c_lowest : Cal P w K mg base 2 "lowest" ["top", "bottom"] spLow) : FnOk P w K mg base CX0 3 f fd ["one", "other"] (spTwo K (fun t u v x => True) (fun t u v x => t * x + v * u) (fun t u v x => u * x)) := by
  refine F.ok sc_plus (fun vs H Q E h => ?_) (fun cdv A outer s H vs Q E hr h => ?_)
  · obtain ⟨a, c, t, u, v, x, rfl, _⟩ := h
    rfl
  · obtain ⟨a, c, t, u, v, x, rfl, ha, hc, pr, hu, hx, b1, b2, b3, b4, q⟩ := h
    refine ⟨_, (pss_one (ps_ret (pe_cal c_lowest hr (pa_cons (pe_op op_add (pe_op op_mulW (pe_ix ix_tup (pv 0) pe_int (fun _ _ => rfl)) (pe_ix ix_tup (pv 1) pe_int (fun _ _ => rfl))) (pe_op op_mulW (pe_ix ix_tup (pv 1) pe_int (fun _ _ => rfl)) (pe_ix ix_tup (pv 0) pe_int (fun _ _ => rfl)))) (pa_cons (pe_op op_mulW (pe_ix ix_tup (pv 0) pe_int (fun _ _ => rfl)) (pe_ix ix_tup (pv 1) pe_int (fun _ _ => rfl))) pa_nil))))), ?_⟩
    have nz : u * x ≠ 0 := Int.mul_ne_zero (by omega) (by omega)
    refine ⟨_, rfl, a, _, 0, .int t, rfl, rfl, ha, a0, _, rfl, c, _, 1, .int x, rfl, rfl, hc, a1, _, _, rfl, rfl, wide_mul b1 b4 (by decide) (by decide) (by decide), _, rfl, c, _, 0, .int v, rfl, rfl, hc, a0, _, rfl, a, _, 1, .int u, rfl, rfl, ha, a1, _, _, rfl, rfl, wide_mul b3 b2 (by decide) (by decide) (by decide), _, _, rfl, rfl, _, rfl, a, _, 1, .int u, rfl, rfl, ha, a1, _, rfl, c, _, 1, .int x, rfl, rfl, hc, a1, _, _, rfl, rfl, wide_mul b2 b4 (by decide) (by decide) (by decide), _, _, rfl, nz, ?_, q⟩
    exact Nat.lt_of_lt_of_le (wide_lt b2 b4) (Nat.pow_le_pow_right (by decide) (by decide))
theorem sc_size_of : FnScope ["one"] ["one"] (defScope s_size_of) := ⟨rfl, rfl, rfl, by decide +kernel, rfl, by decide +kernel, by decide +kernel⟩
theorem ok_size_of {f : Addr} {fd : FuncData} {k : Nat} (F : Fun K "size_of" "size_of" s_size_of f fd) (z : Zs mg) : FnOk P w K mg base CX0 (k + 1) f fd ["one"] (spSize K) := by
  refine F.ok sc_size_of (fun vs H Q E h => ?_) (fun cdv A outer s H vs Q E hr h => ?_)
  · obtain ⟨a, t, u, rfl, _⟩ := h
    rfl
  · obtain ⟨a, t, u, rfl, ha, q⟩ := h
    refine ⟨_, (pss_one (ps_ret (pe_tup (pa_cons (pe_callB call_abs (by rfl) z.abs (by decide +kernel) (pa_cons (pe_ix ix_tup (pv 0) pe_int (fun _ _ => rfl)) pa_nil)) (pa_cons (pe_ix ix_tup (pv 0) pe_int (fun _ _ => rfl)) pa_nil))))), ?_⟩
    exact ⟨_, rfl, a, _, 0, .int t, rfl, rfl, ha, a0, _, rfl, _, rfl, a, _, 1, .int u, rfl, rfl, ha, a1, (by show 2 ≤ sizeLine; decide), q⟩
theorem sc_under : FnScope ["one", "other"] ["one", "other"] (defScope s_under) := ⟨rfl, rfl, rfl, by decide +kernel, rfl, by decide +kernel, by decide +kernel⟩
theorem ok_under {f : Addr} {fd : FuncData} {k : Nat} (F : Fun K "under" "under" s_under f fd) : FnOk P w K mg base CX0 (k + 1) f fd ["one", "other"] (spUnder K) := by
  refine F.ok sc_under (fun vs H Q E h => ?_) (fun cdv A outer s H vs Q E hr h => ?_)
  · obtain ⟨a, c, t, u, v, x, rfl, _⟩ := h
    rfl
  · obtain ⟨a, c, t, u, v, x, rfl, ha, hc, b1, b2, b3, b4, q⟩ := h
    refine ⟨_, (pss_one (ps_ret (pe_cmpR op_lt (pe_op op_mulW (pe_ix ix_tup (pv 0) pe_int (fun _ _ => rfl)) (pe_ix ix_tup (pv 1) pe_int (fun _ _ => rfl))) (pe_op op_mulW (pe_ix ix_tup (pv 1) pe_int (fun _ _ => rfl)) (pe_ix ix_tup (pv 0) pe_int (fun _ _ => rfl))) (nomark _)))), ?_⟩
    exact ⟨_, rfl, a, _, 0, .int t, rfl, rfl, ha, a0, _, rfl, c, _, 1, .int x, rfl, rfl, hc, a1, _, _, rfl, rfl, wide_mul b1 b4 (by decide) (by decide) (by decide), _, rfl, c, _, 0, .int v, rfl, rfl, hc, a0, _, rfl, a, _, 1, .int u, rfl, rfl, ha, a1, _, _, rfl, rfl, wide_mul b3 b2 (by decide) (by decide) (by decide), _, _, rfl, rfl, q⟩
theorem sc_is_fraction : FnScope ["thing", "top", "bottom"] ["thing"] (defScope s_is_fraction) := ⟨rfl, rfl, rfl, by decide +kernel, rfl, by decide +kernel, by decide +kernel⟩
theorem ok_is_fraction {f : Addr} {fd : FuncData} (F : Fun K "is_fraction" "is_fraction" s_is_fraction f fd) (z : Zs mg) (c_is_whole : Cal P w K mg base 1 "is_whole" ["thing"] (spWhole K)) (c_shared_divisor : Cal P w K mg base 1 "shared_divisor" ["top", "bottom"] spShared) : FnOk P w K mg base CX0 2 f fd ["thing"] spIsFrac := by
  refine F.ok sc_is_fraction (fun vs H Q E h => ?_) (fun cdv A outer s H vs Q E hr h => ?_)
  · obtain ⟨a, t, u, rfl, _⟩ := h
    rfl
  · obtain ⟨a, t, u, rfl, ha, hu, q⟩ := h
    refine ⟨_, (pss_cons (ps_if (PW.pt (pw_or (pt_not (pt_val (pe_callB call_isi (by rfl) z.isinstance (by decide +kernel) (pa_cons (pv 0) (pa_cons (pe_bltn (v := .ty "tuple") (by rfl) z.tuple (by decide +kernel) rfl) pa_nil))))) (pw_or1 (pt_cmpR op_ne (pe_callB call_len_seq (by rfl) z.len PySem.boot_len (pa_cons (pv 0) pa_nil)) pe_int (nomark _))))) (pss_one (ps_ret pe_bl)) pss_nil)
      (pss_cons (ps_asg (pv 0) (pg_tup (by rfl) (pgs_cons (pg_name (i := 1) sc_is_fraction.nd rfl (.inl rfl)) (pgs_cons (pg_name (i := 2) sc_is_fraction.nd rfl (.inl rfl)) pgs_nil))))
      (pss_cons (ps_if (PW.pt (pw_or (pt_not (pt_val (pe_cal c_is_whole hr (pa_cons (pv 1) pa_nil)))) (pw_or (pt_not (pt_val (pe_cal c_is_whole hr (pa_cons (pv 2) pa_nil)))) (pw_or1 (pt_cmpR op_lt (pv 2) pe_int (nomark _)))))) (pss_one (ps_ret pe_bl)) pss_nil)
      (pss_one (ps_ret (pe_cmpR op_eq (pe_cal c_shared_divisor hr (pa_cons (pv 1) (pa_cons (pv 2) pa_nil))) pe_int (nomark _))))))), ?_⟩
    refine ⟨_, rfl, _, .ty "tuple", _, _, true, rfl, .ty _, .base (.tup ha), kit_ty (by decide +kernel), _, rfl, iteF ⟨_, rfl, a, _, rfl, .inr (SqT.of ha), rfl, _, rfl, iteF ?_⟩⟩
    refine ⟨_, rfl, a, _, rfl, SqT.of ha, rfl, _, _, rfl, _, _, rfl, rfl, ?_⟩
    refine ⟨_, rfl, _, _, rfl, .int t, _, rfl, iteF ⟨_, rfl, _, _, rfl, .int u, _, rfl, iteF ⟨_, rfl, _, _, rfl, rfl, _, rfl, ite2 (fun c => ?_) (fun c => ?_)⟩⟩⟩
    · have := toB c
      omega
    · refine ⟨_, rfl, _, rfl, t, u, rfl, by omega, rfl, ?_⟩
      have e : (decide (V.int (gI t u) = V.int 1)) = decide (gI t u = 1) := by
        by_cases h : gI t u = 1
        · rw [h]
          rfl
        · rw [decide_eq_false h, decide_eq_false (fun z => h (V.int.inj z))]
      rw [e]
      exact q
theorem sc_is_place : FnScope ["thing", "many"] ["thing", "many"] (defScope s_is_place) := ⟨rfl, rfl, rfl, by decide +kernel, rfl, by decide +kernel, by decide +kernel⟩
theorem ok_is_place {f : Addr} {fd : FuncData} (F : Fun K "is_place" "is_place" s_is_place f fd) (c_is_whole : Cal P w K mg base 1 "is_whole" ["thing"] (spWhole K)) : FnOk P w K mg base CX0 2 f fd ["thing", "many"] spPlace := by
  refine F.ok sc_is_place (fun vs H Q E h => ?_) (fun cdv A outer s H vs Q E hr h => ?_)
  · obtain ⟨n, m, rfl, _⟩ := h
    rfl
  · obtain ⟨n, m, rfl, h0, h1, q⟩ := h
    refine ⟨_, (pss_one (ps_ret (pe_and (pe_cal c_is_whole hr (pa_cons (pv 0) pa_nil)) (pe_one (pe_chain op_le op_lt pe_int (pv 0) (pv 1)))))), ?_⟩
    refine ⟨_, rfl, _, true, rfl, .int n, _, rfl, iteT ⟨_, rfl, _, _, rfl, rfl, _, rfl, ?_⟩⟩
    rw [decide_eq_true h0]
    refine iteT ⟨_, rfl, _, _, rfl, rfl, ?_⟩
    show Q (.bl (decide (n < m))) H
    rw [decide_eq_true h1]
    exact q
theorem sc_is_wanted : FnScope ["one", "two"] ["one", "two"] (defScope s_is_wanted) := ⟨rfl, rfl, rfl, by decide +kernel, rfl, by decide +kernel, by decide +kernel⟩
theorem ok_is_wanted {f : Addr} {fd : FuncData} {aO : Addr} (g_ONE : mg "ONE" = some (.ref aO)) (tO : ∀ H, SqT K H aO [.int 1, .int 1]) (F : Fun K "is_wanted" "is_wanted" s_is_wanted f fd) (c_is_fraction : Cal P w K mg base 2 "is_fraction" ["thing"] spIsFrac) (c_under : Cal P w K mg base 1 "under" ["one", "other"] (spUnder K)) (c_size_of : Cal P w K mg base 1 "size_of" ["one"] (spSize K)) (c_plus : Cal P w K mg base 3 "plus" ["one", "other"] (spTwo K (fun t u v x => True) (fun t u v x => t * x + v * u) (fun t u v x => u * x))) : FnOk P w K mg base CX0 4 f fd ["one", "two"] spWanted := by
  refine F.ok sc_is_wanted (fun vs H Q E h => ?_) (fun cdv A outer s H vs Q E hr h => ?_)
  · obtain ⟨p1, p2, t1, b1, t2, b2, E, rfl, _⟩ := h
    rfl
  · obtain ⟨p1, p2, t1, b1, t2, b2, E, rfl, W, q⟩ := h
    refine ⟨_, (pss_cons (ps_if (PW.pt (pw_or (pt_not (pt_val (pe_cal c_is_fraction hr (pa_cons (pv 0) pa_nil)))) (pw_or (pt_not (pt_val (pe_cal c_is_fraction hr (pa_cons (pv 1) pa_nil)))) (pw_or1 (pt_val (pe_cal c_under hr (pa_cons (pe_glob (v := .ref aO) (by rfl) g_ONE rfl) (pa_cons (pe_cal c_size_of hr (pa_cons (pv 1) pa_nil)) pa_nil)))))))) (pss_one (ps_ret pe_bl)) pss_nil)
      (pss_one (ps_ret (pe_not (pe_cal c_under hr (pa_cons (pe_cal c_plus hr (pa_cons (pe_glob (v := .ref aO) (by rfl) g_ONE rfl) (pa_cons (pv 1) pa_nil))) (pa_cons (pe_cal c_size_of hr (pa_cons (pv 0) pa_nil)) pa_nil))))))), ?_⟩
    obtain ⟨a1, a2, g1, g2, wn, s1, s2, s3, s4, eE⟩ := W
    have w1 := wn.p1
    have w2 := wn.p2
    refine ⟨_, rfl, p1, t1, b1, rfl, a1, by omega, ?_⟩
    rw [decide_eq_true g1]
    refine ⟨_, rfl, iteF ⟨_, rfl, p2, t2, b2, rfl, a2, by omega, ?_⟩⟩
    rw [decide_eq_true g2]
    refine ⟨_, rfl, iteF ⟨_, rfl, p2, t2, b2, rfl, SqT.of a2, fun u hu => ?_⟩⟩
    have S1 := same_new (o := .tup [.int (absI t2), .int b2]) hu
    have at2 : (absI t2).natAbs < 2 ^ 40 := by unfold absI; split <;> omega
    have at1 : (absI t1).natAbs < 2 ^ 40 := by unfold absI; split <;> omega
    have lt2 : ¬ (1 * b2 < absI t2 * 1) := by
      have := wn.l2
      have := wn.u2
      unfold absI
      split <;> omega
    refine ⟨aO, u, 1, 1, absI t2, b2, rfl, tO _, SqT.of upd_same, by decide, by decide, up at2 (by decide), up s4 (by decide), ?_⟩
    rw [decide_eq_false lt2]
    refine ⟨_, rfl, iteF ?_⟩
    refine ⟨_, rfl, aO, p2, 1, 1, t2, b2, rfl, tO _, SqT.of (S1 _ _ a2), trivial, by decide, w2, by decide, by decide, up s3 (by decide), up s4 (by decide), fun v hv => ?_⟩
    have S2 := S1.trans (same_new (o := .tup [.int (lowT (1 * b2 + t2 * 1) (1 * b2)), .int (lowB (1 * b2 + t2 * 1) (1 * b2))]) hv)
    refine ⟨_, rfl, p1, t1, b1, rfl, SqT.of (S2 _ _ a1), fun x hx => ?_⟩
    have S3 := same_new (o := .tup [.int (absI t1), .int b1]) hx
    have bT : (lowT (1 * b2 + t2 * 1) (1 * b2)).natAbs < 2 ^ 1900 := by
      have h1 : (lowT (1 * b2 + t2 * 1) (1 * b2)).natAbs ≤ (1 * b2 + t2 * 1).natAbs := by
        unfold lowT
        refine Nat.le_trans (Int.natAbs_ediv_le_natAbs _ _) ?_
        split <;> omega
      refine Nat.lt_of_le_of_lt (Nat.le_trans h1 (show _ ≤ 2 ^ 42 by omega)) (by decide)
    have bB : (lowB (1 * b2 + t2 * 1) (1 * b2)).natAbs < 2 ^ 1900 := by
      have h1 : (lowB (1 * b2 + t2 * 1) (1 * b2)).natAbs ≤ (1 * b2).natAbs := by
        unfold lowB
        refine Nat.le_trans (Int.natAbs_ediv_le_natAbs _ _) ?_
        split <;> omega
      refine Nat.lt_of_le_of_lt (Nat.le_trans h1 (show _ ≤ 2 ^ 42 by omega)) (by decide)
    refine ⟨v, x, _, _, _, _, rfl, SqT.of (S3 _ _ upd_same), SqT.of upd_same, bT, bB, up at1 (by decide), up s2 (by decide), ?_⟩
    rw [decide_eq_false (wanted_ok wn)]
    exact ⟨_, rfl, q _ (S2.trans S3)⟩
theorem sc_is_still_pair : FnScope ["one", "two", "end"] ["one", "two", "end"] (defScope s_is_still_pair) := ⟨rfl, rfl, rfl, by decide +kernel, rfl, by decide +kernel, by decide +kernel⟩
theorem ok_is_still_pair {f : Addr} {fd : FuncData} {k : Nat} (F : Fun K "is_still_pair" "is_still_pair" s_is_still_pair f fd) (z : Zs mg) : FnOk P w K mg base CX0 (k + 1) f fd ["one", "two", "end"] spStill := by
  refine F.ok sc_is_still_pair (fun vs H Q E h => ?_) (fun cdv A outer s H vs Q E hr h => ?_)
  · obtain ⟨b, c, E, rfl, _⟩ := h
    rfl
  · obtain ⟨b, c, E, rfl, q⟩ := h
    refine ⟨_, (pss_one (ps_ret (pe_and (pe_cmpR op_lt (pe_callB call_abs (by rfl) z.abs (by decide +kernel) (pa_cons (pv 1) pa_nil)) (pv 2) (nomark _)) (pe_one (pe_cmpR op_lt (pe_callB call_abs (by rfl) z.abs (by decide +kernel) (pa_cons (pv 0) pa_nil)) (pe_op op_add (pv 2) (pv 1)) (nomark _)))))), ?_⟩
    have q' : Q (.bl (decide (absI c < E) && decide (absI b < E + c))) H := q
    refine ⟨_, rfl, _, rfl, _, rfl, _, _, rfl, rfl, _, rfl, ?_⟩
    show if decide (absI c < E) = true then _ else _
    by_cases h : absI c < E
    · rw [decide_eq_true h] at q' ⊢
      rw [Bool.true_and] at q'
      exact iteT ⟨_, rfl, _, rfl, _, rfl, _, rfl, _, _, rfl, rfl, _, _, rfl, rfl, q'⟩
    · rw [decide_eq_false h] at q' ⊢
      exact iteF q'
theorem sc_numbers_near : FnScope ["value", "end", "middle"] ["value", "end"] (defScope s_numbers_near) := ⟨rfl, rfl, rfl, by decide +kernel, rfl, by decide +kernel, by decide +kernel⟩
theorem ok_numbers_near {f : Addr} {fd : FuncData} {k : Nat} (tk : Tok) (g_FARTHEST_STEPS : mg "FARTHEST_STEPS" = some (.int 2 tk)) (F : Fun K "numbers_near" "numbers_near" s_numbers_near f fd) (z : Zs mg) : FnOk P w K mg base CX0 (k + 1) f fd ["value", "end"] (spNrs K) := by
  refine F.ok sc_numbers_near (fun vs H Q E h => ?_) (fun cdv A outer s H vs Q E hr h => ?_)
  · obtain ⟨p, t, b, E, rfl, _⟩ := h
    rfl
  · obtain ⟨p, t, b, E, rfl, hp, b0, bb, tb, e1, e2, q⟩ := h
    refine ⟨_, (pss_cons (ps_set (i := 2) sc_numbers_near.nd rfl (.inl rfl) (pe_op op_fdivW (pe_op op_mul (pe_ix ix_tup (pv 0) pe_int (fun _ _ => rfl)) (pv 1)) (pe_ix ix_tup (pv 0) pe_int (fun _ _ => rfl))))
      (pss_one (ps_ret (pe_listRg rfl (by rfl) z.list (prg_2 (by rfl) z.range (pe_op op_sub (pv 2) (pe_glob (v := .int 2) (by rfl) g_FARTHEST_STEPS ⟨_, rfl⟩)) (pe_op op_add (pe_op op_add (pv 2) (pe_glob (v := .int 2) (by rfl) g_FARTHEST_STEPS ⟨_, rfl⟩)) pe_int)))))), ?_⟩
    refine ⟨_, rfl, p, _, 0, _, rfl, rfl, hp, a0, _, rfl, _, _, rfl, rfl, .inr ⟨by omega, by omega⟩, _, rfl, p, _, 1, _, rfl, rfl, hp, a1, _, _, rfl, rfl, wide_div b0 (up bb (show 40 ≤ 4000 by decide)) (by decide) (by decide), ?_⟩
    have m1 : (t * E / b).natAbs ≤ (t * E).natAbs := Int.natAbs_ediv_le_natAbs _ _
    have m2 : (t * E).natAbs ≤ 2 ^ 40 * 2 ^ 20 := by
      rw [Int.natAbs_mul]
      exact Nat.mul_le_mul (by omega) (by omega)
    have m3 : (t * E / b).natAbs ≤ 2 ^ 60 := Nat.le_trans m1 (Nat.le_trans m2 (by decide))
    refine ⟨_, rfl, _, _, rfl, rfl, _, rfl, _, _, rfl, rfl, _, _, rfl, rfl, _, _, rfl, rfl, ⟨by omega, by omega, by omega, by omega, by omega⟩, q⟩
theorem sc_far_off : FnScope ["number", "value", "end", "bottom"] ["number", "value", "end", "bottom"] (defScope s_far_off) := ⟨rfl, rfl, rfl, by decide +kernel, rfl, by decide +kernel, by decide +kernel⟩
theorem ok_far_off {f : Addr} {fd : FuncData} {k : Nat} (F : Fun K "far_off" "far_off" s_far_off f fd) (z : Zs mg) : FnOk P w K mg base CX0 (k + 1) f fd ["number", "value", "end", "bottom"] (spFar K) := by
  refine F.ok sc_far_off (fun vs H Q E h => ?_) (fun cdv A outer s H vs Q E hr h => ?_)
  · obtain ⟨p, n, t, b, E, d, rfl, _⟩ := h
    rfl
  · obtain ⟨p, n, t, b, E, d, rfl, hp, bb, db, e1, e2, q⟩ := h
    refine ⟨_, (pss_one (ps_ret (pe_op op_mul (pe_callB call_abs (by rfl) z.abs (by decide +kernel) (pa_cons (pe_op op_sub (pe_op op_mul (pv 0) (pe_ix ix_tup (pv 1) pe_int (fun _ _ => rfl))) (pe_op op_mul (pe_ix ix_tup (pv 1) pe_int (fun _ _ => rfl)) (pv 2))) pa_nil)) (pv 3)))), ?_⟩
    exact ⟨_, rfl, _, rfl, p, _, 1, _, rfl, rfl, hp, a1, _, _, rfl, rfl, .inr ⟨by omega, by omega⟩, _, rfl, p, _, 0, _, rfl, rfl, hp, a0, _, rfl, _, _, rfl, rfl, .inr ⟨by omega, by omega⟩, _, _, rfl, rfl, _, rfl, _, rfl, _, _, rfl, rfl, .inr ⟨by omega, by omega⟩, q⟩
end
end E1

namespace E1
open PySem PySem.Spec PyProof.Rows L2
section
variable {P : Program} {w : World} {K : PySem.W.Frag} {mg : Str → Option Value} {base : Heap}
theorem sc_nearest_still : FnScope ["one", "two", "point", "end", "ranked", "first", "barred", "b", "c", "far"] ["one", "two", "point"] (defScope s_nearest_still) := ⟨rfl, rfl, rfl, by decide +kernel, rfl, by decide +kernel, by decide +kernel⟩
theorem ok_nearest_still {f : Addr} {fd : FuncData} (tk : Tok) (g_GREATEST_POINT : mg "GREATEST_POINT" = some (.int 20 tk)) (F : Fun K "nearest_still" "nearest_still" s_nearest_still f fd) (z : Zs mg) (c_is_wanted : Cal P w K mg base 4 "is_wanted" ["one", "two"] spWanted) (c_is_place : Cal P w K mg base 2 "is_place" ["thing", "many"] spPlace) (c_numbers_near : Cal P w K mg base 1 "numbers_near" ["value", "end"] (spNrs K)) (c_far_off : Cal P w K mg base 1 "far_off" ["number", "value", "end", "bottom"] (spFar K)) (c_is_still_pair : Cal P w K mg base 1 "is_still_pair" ["one", "two", "end"] spStill) : FnOk P w K mg base CX0 5 f fd ["one", "two", "point"] spNear := by
  refine F.ok sc_nearest_still (fun vs H Q E h => ?_) (fun cdv A outer s00 H vs Q E00 hr h => ?_)
  · obtain ⟨p1, p2, s, t1, b1, t2, b2, rfl, _⟩ := h
    rfl
  · obtain ⟨p1, p2, s, t1, b1, t2, b2, rfl, s0, s1, W, q⟩ := h
    generalize hE : (2 : Int) ^ s.toNat = E at W q
    refine ⟨_, (pss_cons (ps_if (PW.pt (pw_or (pt_not (pt_val (pe_cal c_is_wanted hr (pa_cons (pv 0) (pa_cons (pv 1) pa_nil))))) (pw_or1 (pt_not (pt_val (pe_cal c_is_place hr (pa_cons (pv 2) (pa_cons (pe_op op_add (pe_glob (v := .int 20) (by rfl) g_GREATEST_POINT ⟨_, rfl⟩) pe_int) pa_nil)))))))) (pss_one ps_never) pss_nil)
      (pss_cons (ps_set (i := 3) sc_nearest_still.nd rfl (.inr rfl) (pe_op op_shl pe_int (pv 2)))
      (C8.pss_cut (ps_set (i := 4) sc_nearest_still.nd rfl (.inl rfl) (pe_callB (cr_sortedE hr.units ord3) (by rfl) z.sorted (by decide +kernel) (pa_cons (pe_lc2 (own := [("b", 7), ("c", 8)]) (vs1 := [8]) (g := gName 7) (g1 := gName 8) (tt := tYes) (tt1 := tYes) (wi1 := iList K (tCall (spNrs K) [] E0 (tCons (tVar 1) (tCons (tVar 3) tNil)))) (te := (tTup (tCons (tCB (fun xs H Q => ∃ i j, xs = [V.int i, V.int j] ∧ Q (.int (if j > i then j else i)) H) (tCons (tCall (spFar K) [] E0 (tCons (tVar 7) (tCons (tVar 0) (tCons (tVar 3) (tCons (tOp (rIxT K) (tVar 1) (tC (.int 1))) tNil))))) (tCons (tCall (spFar K) [] E0 (tCons (tVar 8) (tCons (tVar 1) (tCons (tVar 3) (tCons (tOp (rIxT K) (tVar 0) (tC (.int 1))) tNil))))) tNil))) (tCons (tVar 7) (tCons (tVar 8) tNil))))) (by rfl) sc_nearest_still.nd (pi_list (pe_cal c_numbers_near hr (pa_cons (pv 0) (pa_cons (pv 3) pa_nil)))) (blkOk_by (own := [("b", 7), ("c", 8)]) (N := ["one", "two", "point", "end", "ranked", "first", "barred", "b", "c", "far"]) (sc := defScope s_nearest_still) (by decide +kernel)) (by decide) (fun _ _ _ _ _ => by exact (pg_name (i := 7) sc_nearest_still.nd rfl (.inl rfl))) (fun _ _ _ _ _ => by exact pts_nil) (fun _ _ _ _ _ => by exact (pi_list (pe_cal c_numbers_near hr (pa_cons (pv 1) (pa_cons (pv 3) pa_nil))))) (fun _ _ _ _ _ => by exact (pg_name (i := 8) sc_nearest_still.nd rfl (.inl rfl))) (fun _ _ _ _ _ => by exact pts_nil) (fun _ _ _ _ _ => by exact (pe_tup (pa_cons (pe_callB (call_max2 rfl) (by rfl) z.max (by decide +kernel) (pa_cons (pe_cal c_far_off hr (pa_cons (pv 7) (pa_cons (pv 0) (pa_cons (pv 3) (pa_cons (pe_ix ix_tup (pv 1) pe_int (fun _ _ => rfl)) pa_nil))))) (pa_cons (pe_cal c_far_off hr (pa_cons (pv 8) (pa_cons (pv 1) (pa_cons (pv 3) (pa_cons (pe_ix ix_tup (pv 0) pe_int (fun _ _ => rfl)) pa_nil))))) pa_nil))) (pa_cons (pv 7) (pa_cons (pv 8) pa_nil)))))) pa_nil)))
      (C8.pss_cut (ps_set (i := 5) sc_nearest_still.nd rfl (.inl rfl) (pe_bm PySem.F.plainAttrs_list PySem.F.slot_list_index PySem.F.type_list_index mt_index (pe_lc (own := [("far", 9), ("b", 7), ("c", 8)]) (g := gTup K 3 (gCons (gName 9) (gCons (gName 7) (gCons (gName 8) gNil)))) (tt := tYes) (te := (tCall spStill [] E0 (tCons (tVar 7) (tCons (tVar 8) (tCons (tVar 3) tNil))))) (by rfl) sc_nearest_still.nd (pi_list (pv 4)) (blkOk_by (own := [("far", 9), ("b", 7), ("c", 8)]) (N := ["one", "two", "point", "end", "ranked", "first", "barred", "b", "c", "far"]) (sc := defScope s_nearest_still) (by decide +kernel)) (fun _ _ _ _ _ => by exact (pg_tup (by rfl) (pgs_cons (pg_name (i := 9) sc_nearest_still.nd rfl (.inl rfl)) (pgs_cons (pg_name (i := 7) sc_nearest_still.nd rfl (.inl rfl)) (pgs_cons (pg_name (i := 8) sc_nearest_still.nd rfl (.inl rfl)) pgs_nil))))) (fun _ _ _ _ _ => by exact pts_nil) (fun _ _ _ _ _ => by exact (pe_cal c_is_still_pair hr (pa_cons (pv 7) (pa_cons (pv 8) (pa_cons (pv 3) pa_nil)))))) (pa_cons pe_bl pa_nil)))
      (pss_cons (ps_set (i := 6) sc_nearest_still.nd rfl (.inl rfl) (pe_callB (cr_sortedE hr.units ordW) (by rfl) z.sorted (by decide +kernel) (pa_cons (pe_lc (own := [("far", 9), ("b", 7), ("c", 8)]) (g := gTup K 3 (gCons (gName 9) (gCons (gName 7) (gCons (gName 8) gNil)))) (tt := tYes) (te := (tTup (tCons (tVar 7) (tCons (tVar 8) (tCons (tIf (tTest (tOp (rI0 fun i j => V.bl (decide (i < j))) (tCB (fun xs H Q => ∃ i, xs = [V.int i] ∧ Q (.int (if i < 0 then -i else i)) H) (tCons (tVar 8) tNil)) (tVar 3))) (tC (.str "one")) (tC (.str "two"))) tNil))))) (by rfl) sc_nearest_still.nd (pi_list (pe_slice sl_list (pv 4) po_none (po_some (pv 5)))) (blkOk_by (own := [("far", 9), ("b", 7), ("c", 8)]) (N := ["one", "two", "point", "end", "ranked", "first", "barred", "b", "c", "far"]) (sc := defScope s_nearest_still) (by decide +kernel)) (fun _ _ _ _ _ => by exact (pg_tup (by rfl) (pgs_cons (pg_name (i := 9) sc_nearest_still.nd rfl (.inl rfl)) (pgs_cons (pg_name (i := 7) sc_nearest_still.nd rfl (.inl rfl)) (pgs_cons (pg_name (i := 8) sc_nearest_still.nd rfl (.inl rfl)) pgs_nil))))) (fun _ _ _ _ _ => by exact pts_nil) (fun _ _ _ _ _ => by exact (pe_tup (pa_cons (pv 7) (pa_cons (pv 8) (pa_cons (pe_ifExp (pt_cmpR op_lt (pe_callB call_abs (by rfl) z.abs (by decide +kernel) (pa_cons (pv 8) pa_nil)) (pv 3) (nomark _)) pe_str pe_str) pa_nil)))))) pa_nil)))
      (pss_one (ps_ret (pe_tup (pa_cons (pe_ix ix_tup (pe_ix ix_list (pv 4) (pv 5) (fun _ _ => rfl)) pe_int (fun _ _ => rfl)) (pa_cons (pe_ix ix_tup (pe_ix ix_list (pv 4) (pv 5) (fun _ _ => rfl)) pe_int (fun _ _ => rfl)) (pa_cons (pv 6) pa_nil))))))))))), ?_⟩
    refine ⟨_, rfl, _, rfl, p1, p2, t1, b1, t2, b2, E, rfl, W, fun H0 S0 => ⟨_, rfl, iteF ?_⟩⟩
    refine ⟨_, rfl, _, _, rfl, rfl, s, 20 + 1, rfl, s0, by omega, _, rfl, iteF ?_⟩
    refine ⟨_, rfl, _, _, rfl, rfl, ⟨s0, by omega, by decide⟩, ?_⟩
    have eE : (1 : Int) * 2 ^ s.toNat = E := by rw [Int.one_mul, hE]
    dsimp only
    rw [eE]
    have W0 := W.same S0
    obtain ⟨f1, f2, _, _, wn, l1, l2, l3, l4, lE⟩ := id W0
    have w1 := wn.p1
    have w2 := wn.p2
    have we := wn.e
    refine ⟨fun σ Hr => ∃ (r : Addr) (qs : List (V × T3)), σ = [some (.ref p1), some (.ref p2), some (.int s), some (.int E), some (.ref r), none, none, none, none, none] ∧ Same H0 Hr ∧ Hr r = some (.lst (qs.map (·.1))) ∧ (∀ p ∈ qs, At3 Hr p) ∧ (qs.map (·.2)).Perm ((List.range 25).map (gk t1 b1 t2 b2 E)) ∧ (qs.map (·.2)).Pairwise (fun x y => le3 x y = true), ?_, fun σ Hr hM => ?_⟩
    · refine ⟨_, rfl, _, rfl, p1, t1, b1, E, rfl, SqT.of f1, w1, l2, l1, we, lE, fun A hA => ⟨A, rfl, ⟨_, SqL.of upd_same⟩, fun D hD => ?_⟩⟩
      have SA := same_new (o := .lst (rgV (t1 * E / b1 - 2) (t1 * E / b1 + 2 + 1))) hA
      have hAA : (upd H0 A (.lst (rgV (t1 * E / b1 - 2) (t1 * E / b1 + 2 + 1)))) A = some (.lst (rgV (t1 * E / b1 - 2) (t1 * E / b1 + 2 + 1))) := upd_same
      generalize upd H0 A (.lst (rgV (t1 * E / b1 - 2) (t1 * E / b1 + 2 + 1))) = HA at SA hAA hD ⊢
      refine walk_w (walk_list (K := K) (a := A) (xs := rgV (t1 * E / b1 - 2) (t1 * E / b1 + 2 + 1))) (fun i G => Same HA G ∧ ∃ ps : List (V × T3), G D = some (.lst (ps.map (·.1))) ∧ (∀ p ∈ ps, At3 G p) ∧ ps.map (·.2) = (List.range (5 * i)).map (gk t1 b1 t2 b2 E)) ⟨same_new hD, [], upd_same, (fun p hp => absurd hp List.not_mem_nil), rfl⟩ (fun i G _ hP => SqL.of (hP.1 _ _ hAA)) (fun i x G G' hi hP hY => ?_) (fun G hP => ?_)
      · obtain ⟨sG, ps, hps, h3, em⟩ := hP
        obtain ⟨rfl, hx⟩ := hY
        rw [rg5_len] at hi
        rw [rg5 _ i hi] at hx
        cases hx
        have A1 := sG _ _ (SA _ _ f1)
        have A2 := sG _ _ (SA _ _ f2)
        refine ⟨rfl, _, rfl, _, rfl, p2, t2, b2, E, rfl, SqT.of A2, w2, l4, l3, we, lE, fun B hB => ⟨B, rfl, ⟨_, SqL.of upd_same⟩, ?_⟩⟩
        have SB := same_new (o := .lst (rgV (t2 * E / b2 - 2) (t2 * E / b2 + 2 + 1))) hB
        have nBD : B ≠ D := fun e => by
          rw [e, hps] at hB
          cases hB
        refine walk_w (walk_list (K := K) (a := B) (xs := rgV (t2 * E / b2 - 2) (t2 * E / b2 + 2 + 1))) (fun j G2 => Same HA G2 ∧ G2 B = some (.lst (rgV (t2 * E / b2 - 2) (t2 * E / b2 + 2 + 1))) ∧ ∃ ps : List (V × T3), G2 D = some (.lst (ps.map (·.1))) ∧ (∀ p ∈ ps, At3 G2 p) ∧ ps.map (·.2) = (List.range (5 * i + j)).map (gk t1 b1 t2 b2 E)) ⟨sG.trans SB, upd_same, ps, SB _ _ hps, (fun p hp => (h3 p hp).same SB), em⟩ (fun j G2 _ hP => SqL.of hP.2.1) (fun j y G2 G3 hj hP hY => ?_) (fun G2 hP => ?_)
        · obtain ⟨s2, hB2, ps2, hp2, h32, em2⟩ := hP
          obtain ⟨rfl, hy⟩ := hY
          rw [rg5_len] at hj
          rw [rg5 _ j hj] at hy
          cases hy
          have B1 := s2 _ _ (SA _ _ f1)
          have B2 := s2 _ _ (SA _ _ f2)
          have len2 := congrArg List.length em2
          rw [List.length_map, List.length_map, List.length_range] at len2
          refine ⟨rfl, _, rfl, _, rfl, _, rfl, _, rfl, p2, _, 1, _, rfl, rfl, SqT.of B2, a1, p1, _, t1, b1, E, b2, rfl, SqT.of B1, l2, l4, we, lE, ?_⟩
          refine ⟨_, rfl, _, rfl, _, rfl, _, rfl, p1, _, 1, _, rfl, rfl, SqT.of B1, a1, p2, _, t2, b2, E, b1, rfl, SqT.of B2, l4, l2, we, lE, ?_⟩
          refine ⟨_, _, rfl, _, rfl, _, rfl, (by show 3 ≤ sizeLine; decide), fun Tp hTp => ?_⟩
          have ek : gk t1 b1 t2 b2 E (5 * i + j) = tr t1 b1 t2 b2 E (t1 * E / b1 - 2 + (i : Nat)) (t2 * E / b2 - 2 + (j : Nat)) := by
            unfold gk
            rw [show (5 * i + j) / 5 = i by omega, show (5 * i + j) % 5 = j by omega]
          have sT := same_new (o := .tup [.int (offI t1 b1 t2 b2 E (t1 * E / b1 - 2 + (i : Nat)) (t2 * E / b2 - 2 + (j : Nat))), .int (t1 * E / b1 - 2 + (i : Nat)), .int (t2 * E / b2 - 2 + (j : Nat))]) hTp
          have nTD : Tp ≠ D := fun e => by
            rw [e, hp2] at hTp
            cases hTp
          refine ⟨_, sT _ _ hp2, small1000 (by rw [List.length_map]; omega), fun x o e => ?_, ?_, ps2 ++ [(.ref Tp, gk t1 b1 t2 b2 E (5 * i + j))], ?_, fun p hp => ?_, ?_⟩
          · rw [upd_ne (ne_of_none e hD)]
            exact sT _ _ (s2 _ _ e)
          · rw [upd_ne nBD]
            exact sT _ _ hB2
          · rw [upd_same, List.map_append]
            rfl
          · rcases List.mem_append.mp hp with hp | hp
            · exact ((h32 p hp).same sT).upd (sT _ _ hp2)
            · rw [List.mem_singleton.mp hp]
              refine ⟨Tp, rfl, ?_⟩
              rw [upd_ne nTD, ek]
              exact upd_same
          · show _ = (List.range ((5 * i + j) + 1)).map _
            rw [List.range_succ, List.map_append, List.map_append, em2]
            rfl
        · obtain ⟨s2, hB2, ps2, hp2, h32, em2⟩ := hP
          rw [rg5_len] at em2
          exact ⟨s2, ps2, hp2, h32, em2⟩
      · obtain ⟨sG, ps, hps, h3, em⟩ := hP
        rw [rg5_len] at em
        refine ⟨D, ps, rfl, SqL.of hps, fun p hp => (h3 p hp).dp, fun qs r pm pw hr' => ?_⟩
        have sR := same_new (o := .lst (qs.map (·.1))) hr'
        refine ⟨r, qs, rfl, SA.trans (sG.trans sR), upd_same, fun p hp => (h3 p (pm.mem_iff.mp hp)).same sR, ?_, List.pairwise_map.mpr pw⟩
        have := pm.map (·.2)
        rw [em] at this
        exact this
    obtain ⟨r, qs, rfl, sR, hr', h3, pm, pw⟩ := hM
    have S1 := S0.trans sR
    have f1' := sR _ _ f1
    have f2' := sR _ _ f2
    obtain ⟨j, h, hj, hst, hno, hnear⟩ := near_ranked wn pm pw
    have q25 : qs.length = 25 := by
      have := pm.length_eq
      rw [List.length_map, List.length_map, List.length_range] at this
      exact this
    have lj : j < qs.length := by
      have := (List.getElem?_eq_some_iff.mp hj).1
      rw [List.length_map] at this
      exact this
    rw [List.getElem?_map] at hj
    obtain ⟨ph, hph, eh⟩ := Option.map_eq_some_iff.mp hj
    refine ⟨fun σ Hf => σ = [some (.ref p1), some (.ref p2), some (.int s), some (.int E), some (.ref r), some (.int (j : Nat)), none, none, none, none] ∧ Same Hr Hf, ?_, fun σ Hf hM => ?_⟩
    · refine ⟨_, rfl, r, rfl, ⟨_, SqL.of hr'⟩, fun D hD => lc_list (K := K) (a := r) (xs := qs.map (·.1)) (fun i G => Same Hr G ∧ G D = some (.lst ((qs.take i).map fun p => V.bl (stillB E p.2.2.1 p.2.2.2)))) ⟨same_new hD, upd_same⟩ (fun i G _ hP => SqL.of (hP.1 _ _ hr')) (fun i x G hx hP => ?_) (fun G hP => ?_)⟩
      · obtain ⟨sG, hacc⟩ := hP
        rw [List.getElem?_map] at hx
        obtain ⟨p, hp, rfl⟩ := Option.map_eq_some_iff.mp hx
        obtain ⟨tq, ep, ht⟩ := h3 p (List.mem_of_getElem? hp)
        have li := (List.getElem?_eq_some_iff.mp hp).1
        refine ⟨tq, _, ep, SqT.of (sG _ _ ht), rfl, _, _, rfl, _, _, rfl, _, _, rfl, rfl, rfl, ?_⟩
        refine ⟨_, rfl, _, rfl, _, rfl, _, _, E, rfl, _, hacc, ?_, fun b o e => ?_, ?_⟩
        · rw [List.length_map, List.length_take]
          exact small1000 (by omega)
        · rw [upd_ne (ne_of_none e hD)]
          exact sG _ _ e
        · rw [upd_same, List.take_succ, hp, Option.toList_some, List.map_append]
          rfl
      · obtain ⟨sG, hacc⟩ := hP
        rw [List.length_map, List.take_length] at hacc
        refine ⟨.inl ⟨rfl, _, SqL.of hacc⟩, D, _, .bl true, j, .bl true, rfl, rfl, SqL.of hacc, rfl, ?_, ?_, rfl, fun m z' hm hz => ?_, rfl, sG⟩
        · rw [List.all_map, List.all_eq_true]
          intro x _
          rfl
        · rw [List.getElem?_map, hph]
          show some (V.bl (stillB E ph.2.2.1 ph.2.2.2)) = _
          rw [eh, hst]
        · rw [List.getElem?_map] at hz
          obtain ⟨p, hp, rfl⟩ := Option.map_eq_some_iff.mp hz
          have := hno m p.2 hm (by rw [List.getElem?_map, hp]; rfl)
          rw [this]
          rfl
    obtain ⟨rfl, sF⟩ := hM
    have hrF := sF _ _ hr'
    refine ⟨_, rfl, _, rfl, _, rfl, r, _, rfl, SqL.of hrF, fun C hC => ?_⟩
    rw [cut_take _ j (by rw [List.length_map]; omega), ← List.map_take]
    refine ⟨C, rfl, ⟨_, SqL.of upd_same⟩, fun D hD => ?_⟩
    have SC := same_new (o := .lst ((qs.take j).map (·.1))) hC
    have hCC : (upd Hf C (.lst ((qs.take j).map (·.1)))) C = some (.lst ((qs.take j).map (·.1))) := upd_same
    generalize upd Hf C (.lst ((qs.take j).map (·.1))) = HC at SC hCC hD ⊢
    have SFC := sF.trans SC
    refine lc_list (K := K) (a := C) (xs := (qs.take j).map (·.1)) (fun i G => Same HC G ∧ ∃ ps : List (V × Int × Int × Bool), G D = some (.lst (ps.map (·.1))) ∧ (∀ p ∈ ps, AtW G p) ∧ ps.map (·.2) = ((qs.take j).take i).map fun p => (p.2.2.1, p.2.2.2, decide (¬ absI p.2.2.2 < E))) ⟨same_new hD, [], upd_same, (fun p hp => absurd hp List.not_mem_nil), rfl⟩ (fun i G _ hP => SqL.of (hP.1 _ _ hCC)) (fun i x G hx hP => ?_) (fun G hP => ?_)
    · obtain ⟨sG, ps, hps, hw, em⟩ := hP
      rw [List.getElem?_map] at hx
      obtain ⟨p, hp, rfl⟩ := Option.map_eq_some_iff.mp hx
      have hpm : p ∈ qs := List.mem_of_mem_take (List.mem_of_getElem? hp)
      obtain ⟨tq, ep, ht⟩ := h3 p hpm
      have li := (List.getElem?_eq_some_iff.mp hp).1
      have lps := congrArg List.length em
      rw [List.length_map, List.length_map, List.length_take, List.length_take] at lps
      have fin : ∀ (bw : Bool), bw = decide (¬ absI p.2.2.2 < E) → ∀ Tp, G Tp = none → ∃ acc, (upd G Tp (.tup [.int p.2.2.1, .int p.2.2.2, .str (wS bw)])) D = some (.lst acc) ∧ acc.length < sizeLine ∧ (Same HC (upd (upd G Tp (.tup [.int p.2.2.1, .int p.2.2.2, .str (wS bw)])) D (.lst (acc ++ [.ref Tp]))) ∧ ∃ ps : List (V × Int × Int × Bool), (upd (upd G Tp (.tup [.int p.2.2.1, .int p.2.2.2, .str (wS bw)])) D (.lst (acc ++ [.ref Tp]))) D = some (.lst (ps.map (·.1))) ∧ (∀ p' ∈ ps, AtW (upd (upd G Tp (.tup [.int p.2.2.1, .int p.2.2.2, .str (wS bw)])) D (.lst (acc ++ [.ref Tp]))) p') ∧ ps.map (·.2) = ((qs.take j).take (i + 1)).map fun p => (p.2.2.1, p.2.2.2, decide (¬ absI p.2.2.2 < E))) := fun bw hbw Tp hTp => by
        have sT := same_new (o := .tup [.int p.2.2.1, .int p.2.2.2, .str (wS bw)]) hTp
        have nTD : Tp ≠ D := fun e => by
          rw [e, hps] at hTp
          cases hTp
        refine ⟨_, sT _ _ hps, small1000 (by rw [List.length_map]; omega), fun x o e => ?_, ps ++ [(.ref Tp, p.2.2.1, p.2.2.2, bw)], ?_, fun p' hp' => ?_, ?_⟩
        · rw [upd_ne (ne_of_none e hD)]
          exact sT _ _ (sG _ _ e)
        · rw [upd_same, List.map_append]
          rfl
        · rcases List.mem_append.mp hp' with hp' | hp'
          · exact ((hw p' hp').same sT).upd (sT _ _ hps)
          · rw [List.mem_singleton.mp hp']
            refine ⟨Tp, rfl, ?_⟩
            rw [upd_ne nTD]
            exact upd_same
        · rw [List.take_succ, hp, Option.toList_some, List.map_append, List.map_append, em, hbw]
          rfl
      refine ⟨tq, _, ep, SqT.of (sG _ _ (SFC _ _ ht)), rfl, _, _, rfl, _, _, rfl, _, _, rfl, rfl, rfl, ?_⟩
      refine ⟨_, rfl, _, rfl, _, rfl, _, rfl, _, rfl, _, _, rfl, rfl, _, rfl, ite2 (fun c => ?_) (fun c => ?_)⟩
      · have hc : absI p.2.2.2 < E := toB c
        exact ⟨(by show 3 ≤ sizeLine; decide), fin false (by rw [decide_eq_false (fun n => n hc)])⟩
      · have hc : ¬ absI p.2.2.2 < E := toNB c
        exact ⟨(by show 3 ≤ sizeLine; decide), fin true (by rw [decide_eq_true hc])⟩
    · obtain ⟨sG, ps, hps, hw, em⟩ := hP
      rw [List.length_map, List.take_length] at em
      refine ⟨D, ps, rfl, SqL.of hps, fun p hp => (hw p hp).dp, fun ws M pmW pwW hM => ?_⟩
      have sM := same_new (o := .lst (ws.map (·.1))) hM
      have SS := SFC.trans (sG.trans sM)
      obtain ⟨th, eth, hth⟩ := h3 ph (List.mem_of_getElem? hph)
      have hrM := SS _ _ hr'
      have hthM := SS _ _ hth
      have at_j : atI (qs.map (·.1)) ((j : Nat) : Int) = some (.ref th) := atI_nat (by rw [List.getElem?_map, hph]; exact congrArg some eth)
      refine ⟨_, rfl, _, rfl, r, _, _, _, rfl, rfl, SqL.of hrM, at_j, th, _, 1, _, rfl, rfl, SqT.of hthM, a1, ?_⟩
      refine ⟨_, rfl, _, rfl, r, _, _, _, rfl, rfl, SqL.of hrM, at_j, th, _, 2, _, rfl, rfl, SqT.of hthM, a2, ?_⟩
      refine ⟨_, rfl, (by show 3 ≤ sizeLine; decide), fun u hu => ?_⟩
      have sU := same_new (o := .tup [.int ph.2.2.1, .int ph.2.2.2, .ref M]) hu
      have nMu : M ≠ u := ne_of_none upd_same hu
      have near := hnear (ws.map (·.2)) (by
        have := pmW.map (·.2)
        rw [em] at this
        rw [← List.map_take, List.map_map]
        exact this) (List.pairwise_map.mpr pwW)
      rw [← eh] at near
      refine q u M ph.2.2.1 ph.2.2.2 (ws.map (·.2)) _ ?_ ?_ nMu (S1.trans (SS.trans sU)) upd_same ⟨ws, ?_, fun p hp => ((hw p (pmW.mem_iff.mp hp)).same sM).same sU, rfl⟩ near
      · exact (S1.trans SS).free hu
      · exact (S1.trans (SFC.trans sG)).free hM
      · exact sU _ _ upd_same
end
end E1

namespace E1
open PySem PySem.Spec PyProof.Rows L2
theorem low_gcd {t b : Int} (hb : b ≠ 0) : gI (lowT t b) (lowB t b) = 1 := by
  have h1 : ∀ {x y : Int}, y ≠ 0 → gI (x / gI x y) (y / gI x y) = 1 := fun {x y} h => by
    have := Int.gcd_ediv_gcd_ediv_gcd (i := x) (j := y) (Int.gcd_pos_of_ne_zero_right x h)
    unfold gI
    rw [this]
    rfl
  unfold lowT lowB
  split
  · rw [← gI_neg t b]
    exact h1 (by omega)
  · exact h1 hb

def spLowP : Sp := fun vs H Q _ => ∃ t b : Int, vs = [.int t, .int b] ∧ 0 < b ∧ b.natAbs < 2 ^ 4000 ∧ ∀ p, H p = none → Q (.ref p) (upd H p (.tup [.int (lowT t b), .int (lowB t b)]))
theorem lowTP {t b : Int} (hb : 0 < b) : t / gI t b = lowT t b ∧ b / gI t b = lowB t b := by
  unfold lowT lowB
  rw [if_neg (by omega), if_neg (by omega)]
  exact ⟨rfl, rfl⟩
theorem low_mul {t b : Int} (hb : 0 < b) : lowT t b * gI t b = t ∧ lowB t b * gI t b = b := by
  rw [← (lowTP hb).1, ← (lowTP hb).2]
  exact ⟨Int.ediv_mul_cancel (Int.gcd_dvd_left ..), Int.ediv_mul_cancel (Int.gcd_dvd_right ..)⟩
/-- wanted at every point -/
def Wb (H : Hp) (p1 p2 : Addr) (t1 b1 t2 b2 : Int) : Prop := ∀ E, 1 ≤ E → E ≤ 2 ^ 20 → Wd H p1 p2 t1 b1 t2 b2 E
theorem low_wn {fi bo ma to : Int} (b0 : 0 < bo) (m0 : 0 < ma) (t0 : -bo ≤ to) (t1 : to ≤ bo) (f0 : -((bo + to) * ma) ≤ fi) (f1 : fi ≤ (bo + to) * ma) {E : Int} (e : 1 ≤ E) : Wn (lowT fi (bo * ma)) (lowB fi (bo * ma)) (lowT to bo) (lowB to bo) E := by
  have bm : 0 < bo * ma := Int.mul_pos b0 m0
  obtain ⟨x1, x2⟩ := low_mul (t := fi) bm
  obtain ⟨y1, y2⟩ := low_mul (t := to) b0
  have g1 := gI_pos (t := fi) (b := bo * ma) (by omega)
  have g2 := gI_pos (t := to) (b := bo) (by omega)
  generalize lowT fi (bo * ma) = T1 at *
  generalize lowB fi (bo * ma) = B1 at *
  generalize lowT to bo = T2 at *
  generalize lowB to bo = B2 at *
  generalize gI fi (bo * ma) = G1 at *
  generalize gI to bo = G2 at *
  have q1 : 0 < B1 := by
    refine Int.lt_of_mul_lt_mul_right (a := G1) ?_ (by omega)
    rw [Int.zero_mul, x2]
    exact bm
  have q2 : 0 < B2 := by
    refine Int.lt_of_mul_lt_mul_right (a := G2) ?_ (by omega)
    rw [Int.zero_mul, y2]
    exact b0
  have gg : 0 < G1 * G2 := Int.mul_pos g1 g2
  have right : (B2 + T2) * B1 * (G1 * G2) = (bo + to) * ma * bo := by
    have e1 : (B2 + T2) * B1 * (G1 * G2) = (B2 * G2 + T2 * G2) * (B1 * G1) := by grind
    rw [e1, x2, y1, y2]
    grind
  have left : T1 * B2 * (G1 * G2) = fi * bo := by
    have e1 : T1 * B2 * (G1 * G2) = (T1 * G1) * (B2 * G2) := by grind
    rw [e1, x1, y2]
  refine ⟨q1, q2, e, ?_, ?_, ?_, ?_⟩
  · refine Int.le_of_mul_le_mul_right (a := G2) ?_ g2
    rw [Int.neg_mul, y1, y2]
    exact t0
  · refine Int.le_of_mul_le_mul_right (a := G2) ?_ g2
    rw [y1, y2]
    exact t1
  · refine Int.le_of_mul_le_mul_right (a := G1 * G2) ?_ gg
    rw [left, right]
    exact Int.mul_le_mul_of_nonneg_right f1 (by omega)
  · refine Int.le_of_mul_le_mul_right (a := G1 * G2) ?_ gg
    have e1 : -T1 * B2 * (G1 * G2) = -(T1 * B2 * (G1 * G2)) := by grind
    rw [e1, left, right]
    have := Int.mul_le_mul_of_nonneg_right f0 (show 0 ≤ bo by omega)
    rw [Int.neg_mul] at this
    omega
theorem pick4 {k : Int} (x0 x1 x2 x3 : Int) (h0 : 0 ≤ k) (h1 : k < 4) : ∃ v : Int, atI [V.int x0, V.int x1, V.int x2, V.int x3] k = some (.int v) ∧ (v = x0 ∨ v = x1 ∨ v = x2 ∨ v = x3) := by
  rcases (by omega : k = 0 ∨ k = 1 ∨ k = 2 ∨ k = 3) with rfl | rfl | rfl | rfl
  · exact ⟨x0, atI_nat (j := 0) rfl, .inl rfl⟩
  · exact ⟨x1, atI_nat (j := 1) rfl, .inr (.inl rfl)⟩
  · exact ⟨x2, atI_nat (j := 2) rfl, .inr (.inr (.inl rfl))⟩
  · exact ⟨x3, atI_nat (j := 3) rfl, .inr (.inr (.inr rfl))⟩
theorem WellAt.ne {H : Hp} {a p : Addr} {c : Int} (h : WellAt H a c) (n : H p = none) : p ≠ a := fun e => by
  obtain ⟨_, _, _, z, _⟩ := h
  rw [← e, n] at z
  cases z
def spWn : Sp := fun vs H Q _ => ∃ (a : Addr) (c : Int), vs = [.ref a] ∧ WellAt H a c ∧ c ≤ 1000 ∧
  ∀ (u p1 p2 : Addr) (t1 b1 t2 b2 : Int) (H' : Hp), SameBut a H H' → H' u = some (.tup [.ref p1, .ref p2]) → Wb H' p1 p2 t1 b1 t2 b2 → Q (.ref u) H'
def spOff (K : PySem.W.Frag) : Sp := fun vs H Q _ => ∃ (pp p1 p2 : Addr) (b c t1 b1 t2 b2 E : Int), vs = [.ref pp, .ref p1, .ref p2, .int E] ∧ SqT K H pp [.int b, .int c] ∧ Wd H p1 p2 t1 b1 t2 b2 E ∧ Q (.int (offI t1 b1 t2 b2 E b c)) H
def wordS (E b c : Int) : Str := if ¬ absI c < E then "two" else if absI b < E + c then "" else "one"
def spWord (K : PySem.W.Frag) : Sp := fun vs H Q _ => ∃ (pp : Addr) (b c E : Int), vs = [.ref pp, .int E] ∧ SqT K H pp [.int b, .int c] ∧ ∀ H', Same H H' → Q (.str (wordS E b c)) H'
theorem word_still {E b c : Int} (h : stillB E b c = true) : wordS E b c = "" := by
  unfold stillB at h
  rw [Bool.and_eq_true, decide_eq_true_eq, decide_eq_true_eq] at h
  unfold wordS
  rw [if_neg (fun n => n h.1), if_pos h.2]
theorem word_not {E b c : Int} (h : stillB E b c = false) : wordS E b c = wS (decide (¬ absI c < E)) := by
  unfold wordS wS
  by_cases c1 : absI c < E
  · rw [if_neg (fun n => n c1), decide_eq_false (fun n => n c1), if_neg Bool.false_ne_true]
    unfold stillB at h
    rw [decide_eq_true c1, Bool.true_and] at h
    rw [if_neg (of_decide_eq_false h)]
  · rw [if_pos c1, decide_eq_true c1, if_pos rfl]
section
variable {P : Program} {w : World} {K : PySem.W.Frag} {mg : Str → Option Value} {base : Heap}
theorem sc__law_cell_at : FnScope ["_law_script", "_law_k"] ["_law_script", "_law_k"] (defScope s__law_cell_at) := ⟨rfl, rfl, rfl, by decide +kernel, rfl, by decide +kernel, by decide +kernel⟩
theorem sc__law_well : FnScope ["_law_cell"] ["_law_cell"] (defScope s__law_well) := ⟨rfl, rfl, rfl, by decide +kernel, rfl, by decide +kernel, by decide +kernel⟩
theorem sc__law_draw : FnScope ["_law_well_here", "_law_many", "_law_found", "_law_number"] ["_law_well_here", "_law_many"] (defScope s__law_draw) := ⟨rfl, rfl, rfl, by decide +kernel, rfl, by decide +kernel, by decide +kernel⟩
theorem ok_cell {f : Addr} {fd : FuncData} {k : Nat} (F : Fun K "_law_cell_at" "_law_cell_at" s__law_cell_at f fd) (zl : mg "len" = none) : FnOk P w K mg base CX0 (k + 1) f fd ["_law_script", "_law_k"] (spCell K) := by
  refine F.ok sc__law_cell_at (fun vs H Q E h => ?_) (fun cdv A outer s H vs Q E hr h => ?_)
  · obtain ⟨a, ns, k, rfl, _⟩ := h
    rfl
  · obtain ⟨a, ns, k, rfl, hS, q⟩ := h
    refine ⟨_, (pss_cons (ps_if (pt_cmpR op_lt (pv 1) (pe_callB call_len_seq (by rfl) zl PySem.boot_len (pa_cons (pv 0) pa_nil)) (nomark _)) (pss_one (ps_ret (pe_ix ix_list (pv 0) (pv 1) (fun _ _ => rfl)))) pss_nil)
      (pss_one (ps_ret pe_int))), ?_⟩
    refine ⟨_, rfl, _, rfl, a, _, rfl, .inl hS, _, _, rfl, rfl, _, rfl, ite2 (fun c => ?_) (fun c => ?_)⟩
    · have hk : k < ns.length := by
        have := toB c
        rw [List.length_map] at this
        omega
      refine ⟨_, rfl, _, rfl, a, _, k, .int (ns.getD k 0), rfl, rfl, hS, atI_nat ?_, q⟩
      rw [List.getElem?_map, List.getElem?_eq_getElem hk, List.getD_eq_getElem?_getD, List.getElem?_eq_getElem hk]
      rfl
    · have hk : ¬ k < ns.length := fun z => by
        have := toNB c
        rw [List.length_map] at this
        omega
      have e : ns.getD k 0 = 0 := by
        rw [List.getD_eq_getElem?_getD, List.getElem?_eq_none (by omega)]
        rfl
      rw [e] at q
      exact q
theorem ok_well {f : Addr} {fd : FuncData} {k : Nat} (F : Fun K "_law_well" "_law_well" s__law_well f fd) (zi : mg "int" = none) : FnOk P w K mg base CX0 (k + 1) f fd ["_law_cell"] spWell := by
  refine F.ok sc__law_well (fun vs H Q E h => ?_) (fun cdv A outer s H vs Q E hr h => ?_)
  · obtain ⟨c, rfl, _⟩ := h
    rfl
  · obtain ⟨c, rfl, q⟩ := h
    refine ⟨_, (pss_one (ps_ret (pe_lst (pa_cons (pe_op op_mul (pv 0) (pe_callTy call_int1 (by rfl) zi (by decide +kernel) (pa_cons (pe_cmpR op_ge (pv 0) (pe_op op_pow pe_int pe_int) (nomark _)) pa_nil))) (pa_cons (pe_op op_mod (pv 0) pe_int) (pa_cons pe_int pa_nil)))))), ?_⟩
    refine ⟨_, rfl, _, rfl, _, _, rfl, rfl, ⟨by decide, by decide, by decide⟩, _, _, rfl, rfl, .inr ⟨_, rfl, _, _, rfl, rfl, .inr ?_, ?_⟩⟩
    · split <;> decide
    · refine ⟨_, rfl, _, _, rfl, rfl, (by show (0 : Int) < 2147483647; decide), (by show 3 ≤ sizeLine; decide), fun p hp => ?_⟩
      exact q p hp _ (same_new hp) ⟨_, _, _, upd_same, Int.emod_nonneg _ (by decide), Int.emod_lt_of_pos _ (by decide), Int.le_refl _, Int.le_refl _⟩
theorem ok_draw {f : Addr} {fd : FuncData} {k : Nat} (F : Fun K "_law_draw" "_law_draw" s__law_draw f fd) : FnOk P w K mg base CX0 (k + 1) f fd ["_law_well_here", "_law_many"] spDraw := by
  refine F.ok sc__law_draw (fun vs H Q E h => ?_) (fun cdv A outer s H vs Q E hr h => ?_)
  · obtain ⟨a, c, m, rfl, _⟩ := h
    rfl
  · obtain ⟨a, c, m, rfl, ⟨x, y, z, hw, y0, y1, z0, z1⟩, hc, m0, m1, q⟩ := h
    have fr : ∀ o b, H b = none → (upd H a o) b = none := fun o b hb => by
      rw [upd_ne (fun e => by rw [e, hw] at hb; cases hb)]
      exact hb
    refine ⟨_, (pss_cons (ps_if (pt_cmpR op_gt (pe_ix ix_list (pv 0) pe_int (fun _ _ => rfl)) pe_int (nomark _)) (pss_cons (ps_set (i := 2) sc__law_draw.nd rfl (.inl rfl) (pe_op op_mod (pe_ix ix_list (pv 0) pe_int (fun _ _ => rfl)) (pv 1)))
      (pss_cons (ps_asg (pe_op op_fdivW (pe_ix ix_list (pv 0) pe_int (fun _ _ => rfl)) (pv 1)) (pg_sub (pv 0) pe_int set_list))
      (pss_one (ps_ret (pv 2))))) pss_nil)
      (pss_cons (ps_asg (pe_op op_add (pe_ix ix_list (pv 0) pe_int (fun _ _ => rfl)) pe_int) (pg_sub (pv 0) pe_int set_list))
      (pss_cons (ps_set (i := 3) sc__law_draw.nd rfl (.inl rfl) (pe_op op_mod (pe_op op_pow (pe_op op_add (pe_op op_add (pe_ix ix_list (pv 0) pe_int (fun _ _ => rfl)) (pe_op op_mul pe_int (pe_ix ix_list (pv 0) pe_int (fun _ _ => rfl)))) pe_int) pe_int) pe_int))
      (pss_cons (ps_set (i := 3) sc__law_draw.nd rfl (.inl rfl) (pe_op op_mod (pe_op op_mul (pv 3) (pe_op op_add (pe_op op_fdiv (pv 3) pe_int) pe_int)) pe_int))
      (pss_one (ps_ret (pe_op op_mod (pe_op op_mod (pe_op op_mul (pv 3) (pe_op op_add (pe_op op_fdiv (pv 3) pe_int) pe_int)) pe_int) (pv 1)))))))), ?_⟩
    refine ⟨_, rfl, a, _, 0, .int x, rfl, rfl, SqL.of hw, a0, x, 0, rfl, rfl, _, rfl, ite2 (fun c => ?_) (fun c => ?_)⟩
    · refine ⟨_, rfl, a, _, 0, .int x, rfl, rfl, SqL.of hw, a0, _, rfl, x, m, rfl, rfl, m0, ?_⟩
      refine ⟨_, rfl, a, _, 0, .int x, rfl, rfl, SqL.of hw, a0, _, rfl, x, m, rfl, rfl, wide_div m0 m1 (by decide) (Nat.le_refl _), _, rfl, a, _, 0, 0, rfl, rfl, hw, rfl, ?_⟩
      refine ⟨_, rfl, q _ _ (Int.emod_nonneg _ (by omega)) (Int.emod_lt_of_pos _ m0) SameBut.upd (fr _) ⟨_, _, _, upd_same, y0, y1, z0, by omega⟩⟩
    · refine ⟨_, rfl, a, _, 2, .int z, rfl, rfl, SqL.of hw, a2, z, 1, rfl, rfl, _, rfl, a, _, 2, 2, rfl, rfl, hw, rfl, ?_⟩
      have hw2 : (upd H a (.lst [V.int x, V.int y, V.int (z + 1)])) a = some (.lst [V.int x, V.int y, V.int (z + 1)]) := upd_same
      have n5 : 0 ≤ y + 7919 * (z + 1) + 1 ∧ y + 7919 * (z + 1) + 1 < 18446744073709551616 := by omega
      refine ⟨_, rfl, a, _, 1, .int y, rfl, rfl, SqL.of hw2, a1, _, rfl, a, _, 2, .int (z + 1), rfl, rfl, SqL.of hw2, a2, _, _, rfl, rfl, .inl ⟨by decide, by decide⟩, _, _, rfl, rfl, _, _, rfl, rfl, _, _, rfl, rfl, ⟨by decide, by decide, ?_⟩, _, _, rfl, rfl, (by show (0 : Int) < 2147483647; decide), ?_⟩
      · show (y + 7919 * (z + 1) + 1).natAbs < 18446744073709551616
        omega
      · generalize hn : (y + 7919 * (z + 1) + 1) ^ (5 : Int).toNat % 2147483647 = n
        have n0 : 0 ≤ n := by rw [← hn]; exact Int.emod_nonneg _ (by decide)
        have n1 : n < 2147483647 := by rw [← hn]; exact Int.emod_lt_of_pos _ (by decide)
        refine ⟨_, rfl, _, rfl, _, _, rfl, rfl, ⟨by decide, by decide⟩, _, _, rfl, rfl, _, _, rfl, rfl, .inl ⟨by omega, by omega⟩, _, _, rfl, rfl, (by show (0 : Int) < 2147483629; decide), ?_⟩
        generalize hm : n * (n / 1009 + 69621) % 2147483629 = u
        have u0 : 0 ≤ u := by rw [← hm]; exact Int.emod_nonneg _ (by decide)
        have u1 : u < 2147483629 := by rw [← hm]; exact Int.emod_lt_of_pos _ (by decide)
        refine ⟨_, rfl, _, rfl, _, _, rfl, rfl, ⟨by decide, by decide⟩, _, _, rfl, rfl, _, _, rfl, rfl, .inl ⟨by omega, by omega⟩, _, _, rfl, rfl, (by show (0 : Int) < 2147483587; decide), _, rfl, _, _, rfl, rfl, m0, ?_⟩
        exact q _ _ (Int.emod_nonneg _ (by omega)) (Int.emod_lt_of_pos _ m0) SameBut.upd (fr _) ⟨_, _, _, upd_same, y0, y1, by omega, by omega⟩
theorem sc__law_low : FnScope ["_law_top", "_law_bottom", "_law_this", "_law_other"] ["_law_top", "_law_bottom"] (defScope s__law_low) := ⟨rfl, rfl, rfl, by decide +kernel, rfl, by decide +kernel, by decide +kernel⟩
theorem ok__law_low {f : Addr} {fd : FuncData} {k : Nat} (F : Fun K "_law_low" "_law_low" s__law_low f fd) (z : Zs mg) : FnOk P w K mg base CX0 (k + 1) f fd ["_law_top", "_law_bottom"] spLowP := by
  refine F.ok sc__law_low (fun vs H Q E h => ?_) (fun cdv A outer s H vs Q E hr h => ?_)
  · obtain ⟨t, b, rfl, _⟩ := h
    rfl
  · obtain ⟨t, b, rfl, hb, hl, q⟩ := h
    refine ⟨_, (pss_cons (ps_set (i := 2) sc__law_low.nd rfl (.inl rfl) (pe_callB call_abs (by rfl) z.abs (by decide +kernel) (pa_cons (pv 0) pa_nil)))
      (pss_cons (ps_set (i := 3) sc__law_low.nd rfl (.inl rfl) (pv 1))
      (pss_cons (ps_while PassesOwn.never (pt_cmpR op_gt (pv 3) pe_int (nomark _)) (pss_one (ps_par (i := 2) (j := 3) (by rfl) sc__law_low.nd rfl rfl (by decide) rfl rfl (pa_cons (pv 3) (pa_cons (pe_op op_mod (pv 2) (pv 3)) pa_nil)) (by rfl))))
      (pss_one (ps_ret (pe_tup (pa_cons (pe_op op_fdivW (pv 0) (pv 2)) (pa_cons (pe_op op_fdivW (pv 1) (pv 2)) pa_nil)))))))), ?_⟩
    have g0 := gI_pos (t := t) (b := b) (by omega)
    have g1 : (gI t b).natAbs < 2 ^ 4000 := Nat.lt_of_le_of_lt (gI_le (by omega)) hl
    refine ⟨_, rfl, _, rfl, ?_⟩
    refine ⟨_, rfl, ?_⟩
    dsimp only [gName, tSeq]
    refine while_by (fun σ H' => H' = H ∧ ∃ m n : Nat, σ = [some (.int t), some (.int b), some (.int (m : Int)), some (.int (n : Int))] ∧ Nat.gcd m n = Int.gcd t b)
      (fun σ _ => match σ with | [_, _, _, some (.int r)] => r.toNat | _ => 0) ⟨rfl, t.natAbs, b.natAbs, ?_, rfl⟩ (fun σ H1 hP => ?_) (fun σ H Q Q' m hh => ?_)
    · have e1 : (if t < 0 then -t else t) = (t.natAbs : Int) := by split <;> omega
      have e2 : b = (b.natAbs : Int) := by omega
      show [some (V.int t), some (V.int b), some (V.int (if t < 0 then -t else t)), some (V.int b)] = _
      rw [e1, ← e2]
    · obtain ⟨rfl, m, n, rfl, hg⟩ := hP
      refine ⟨_, rfl, _, _, rfl, rfl, _, rfl, ite2 (fun c => ?_) (fun c => ?_)⟩
      · have hn := toB c
        refine ⟨_, rfl, _, rfl, _, rfl, _, _, rfl, rfl, (by omega), _, _, rfl, ⟨⟨rfl, n, m % n, rfl, ?_⟩, ?_⟩⟩
        · rw [← hg, Nat.gcd_comm n (m % n), ← Nat.gcd_rec n m, Nat.gcd_comm]
        · show ((m : Int) % (n : Int)).toNat < ((n : Int)).toNat
          have := Int.emod_lt_of_pos (m : Int) (show (0 : Int) < n by omega)
          have := Int.emod_nonneg (m : Int) (show (n : Int) ≠ 0 by omega)
          omega
      · have hn := toNB c
        have e0 : n = 0 := by omega
        subst e0
        rw [Nat.gcd_zero_right] at hg
        have e2 : (m : Int) = gI t b := by
          unfold gI
          rw [hg]
        rw [e2]
        refine ⟨_, rfl, _, rfl, _, _, rfl, rfl, wide_div g0 g1 (by decide) (by decide), _, rfl, _, rfl, _, _, rfl, rfl, wide_div g0 g1 (by decide) (by decide), (by show 2 ≤ sizeLine; decide), fun p hp => ?_⟩
        have := q p hp
        rw [← (lowTP hb).1, ← (lowTP hb).2] at this
        exact this
    · obtain ⟨v, e, i, j, e1, e2, kk, ek, hq⟩ := hh
      exact ⟨v, e, i, j, e1, e2, kk, ek, m _ _ hq⟩
theorem sc__law_wanted : FnScope ["_law_well_here", "_law_bottom", "_law_sort", "_law_top", "_law_many", "_law_room", "_law_first"] ["_law_well_here"] (defScope s__law_wanted) := ⟨rfl, rfl, rfl, by decide +kernel, rfl, by decide +kernel, by decide +kernel⟩
theorem ok__law_wanted {f : Addr} {fd : FuncData} (F : Fun K "_law_wanted" "_law_wanted" s__law_wanted f fd) (c__law_draw : Cal P w K mg base 1 "_law_draw" ["_law_well_here", "_law_many"] spDraw) (c__law_low : Cal P w K mg base 1 "_law_low" ["_law_top", "_law_bottom"] spLowP) : FnOk P w K mg base CX0 2 f fd ["_law_well_here"] spWn := by
  refine F.ok sc__law_wanted (fun vs H Q E h => ?_) (fun cdv A outer s H vs Q E hr h => ?_)
  · obtain ⟨a, c, rfl, _⟩ := h
    rfl
  · obtain ⟨a, c, rfl, w0, hc, q⟩ := h
    refine ⟨_, (pss_cons (ps_set (i := 1) sc__law_wanted.nd rfl (.inl rfl) (pe_ix ix_list (pe_lst (pa_cons pe_int (pa_cons pe_int (pa_cons (pe_op op_add pe_int (pe_cal c__law_draw hr (pa_cons (pv 0) (pa_cons pe_int pa_nil)))) (pa_cons (pe_op op_add pe_int (pe_cal c__law_draw hr (pa_cons (pv 0) (pa_cons (pe_op op_pow pe_int pe_int) pa_nil)))) pa_nil))))) (pe_cal c__law_draw hr (pa_cons (pv 0) (pa_cons pe_int pa_nil))) (fun _ _ => rfl)))
      (pss_cons (ps_set (i := 2) sc__law_wanted.nd rfl (.inl rfl) (pe_cal c__law_draw hr (pa_cons (pv 0) (pa_cons pe_int pa_nil))))
      (pss_cons (ps_set (i := 3) sc__law_wanted.nd rfl (.inl rfl) (pe_ix ix_list (pe_lst (pa_cons (pe_op op_sub (pe_cal c__law_draw hr (pa_cons (pv 0) (pa_cons (pe_op op_add (pe_op op_mul pe_int (pv 1)) pe_int) pa_nil))) (pv 1)) (pa_cons (pv 1) (pa_cons (pe_op op_sub pe_int (pv 1)) (pa_cons pe_int pa_nil))))) (pv 2) (fun _ _ => rfl)))
      (pss_cons (ps_set (i := 4) sc__law_wanted.nd rfl (.inl rfl) (pe_op op_add pe_int (pe_cal c__law_draw hr (pa_cons (pv 0) (pa_cons pe_int pa_nil)))))
      (pss_cons (ps_set (i := 5) sc__law_wanted.nd rfl (.inl rfl) (pe_op op_mul (pe_op op_add (pv 1) (pv 3)) (pv 4)))
      (pss_cons (ps_set (i := 6) sc__law_wanted.nd rfl (.inl rfl) (pe_ix ix_list (pe_lst (pa_cons (pe_op op_sub (pe_cal c__law_draw hr (pa_cons (pv 0) (pa_cons (pe_op op_add (pe_op op_mul pe_int (pv 5)) pe_int) pa_nil))) (pv 5)) (pa_cons (pv 5) (pa_cons (pe_op op_sub pe_int (pv 5)) (pa_cons pe_int pa_nil))))) (pe_cal c__law_draw hr (pa_cons (pv 0) (pa_cons pe_int pa_nil))) (fun _ _ => rfl)))
      (pss_one (ps_ret (pe_tup (pa_cons (pe_cal c__law_low hr (pa_cons (pv 6) (pa_cons (pe_op op_mul (pv 1) (pv 4)) pa_nil))) (pa_cons (pe_cal c__law_low hr (pa_cons (pv 3) (pa_cons (pv 1) pa_nil))) pa_nil))))))))))), ?_⟩
    refine ⟨_, rfl, a, c, 30, rfl, w0, by omega, by decide, by decide, fun r1 H1 r10 r11 d1 e1 w1 => ⟨_, _, rfl, rfl, ?_⟩⟩
    refine ⟨_, rfl, _, _, rfl, rfl, ⟨by decide, by decide, by decide⟩, a, _, 10 ^ (9 : Int).toNat, rfl, w1, by omega, by decide, by decide, fun r2 H2 r20 r21 d2 e2 w2 => ⟨_, _, rfl, rfl, (by show 4 ≤ sizeLine; decide), fun l2 hl2 => ?_⟩⟩
    replace r21 : r2 < 1000000000 := r21
    refine ⟨_, rfl, a, _, 4, rfl, (w2.same (same_new hl2)), by omega, by decide, by decide, fun r3 H3 r30 r31 d3 e3 w3 => ?_⟩
    obtain ⟨bo, hbo, vbo⟩ := pick4 1 2 (1 + r1) (1 + r2) r30 r31
    refine ⟨l2, _, _, _, rfl, rfl, SqL.of (d3 _ _ (w2.ne hl2) upd_same), hbo, ?_⟩
    have D3 := d1.trans (d2.trans ((SameBut.of (same_new hl2)).trans d3))
    have b0 : 0 < bo ∧ bo ≤ 1000000000 := by omega
    refine ⟨_, rfl, a, _, 4, rfl, w3, by omega, by decide, by decide, fun r4 H4 r40 r41 d4 e4 w4 => ?_⟩
    refine ⟨_, rfl, _, rfl, _, _, rfl, rfl, .inl ⟨by decide, by decide⟩, _, _, rfl, rfl, a, _, _, rfl, w4, by omega, by omega, Nat.lt_of_le_of_lt (show _ ≤ 2 ^ 32 by omega) (by decide), fun r5 H5 r50 r51 d5 e5 w5 => ⟨_, rfl, _, _, rfl, rfl, _, rfl, _, rfl, _, _, rfl, rfl, (by show 4 ≤ sizeLine; decide), fun l5 hl5 => ?_⟩⟩
    obtain ⟨to, hto, vto⟩ := pick4 (r5 - bo) bo (0 - bo) 0 r40 r41
    refine ⟨_, rfl, l5, _, _, _, rfl, rfl, SqL.of upd_same, hto, ?_⟩
    have D5 := D3.trans (d4.trans (d5.trans (SameBut.of (same_new (o := .lst [.int (r5 - bo), .int bo, .int (0 - bo), .int 0]) hl5))))
    have w6 := w5.same (same_new (o := .lst [.int (r5 - bo), .int bo, .int (0 - bo), .int 0]) hl5)
    have t0 : -bo ≤ to ∧ to ≤ bo := by omega
    refine ⟨_, rfl, a, _, 9, rfl, w6, by omega, by decide, by decide, fun r7 H7 r70 r71 d7 e7 w7 => ⟨_, _, rfl, rfl, ?_⟩⟩
    obtain ⟨ma, hma⟩ : ∃ ma : Int, 1 + r7 = ma := ⟨_, rfl⟩
    have m0 : 0 < ma ∧ ma ≤ 9 := by omega
    dsimp only
    rw [hma]
    refine ⟨_, rfl, _, rfl, _, _, rfl, rfl, _, rfl, _, _, rfl, rfl, .inr ⟨by omega, by omega⟩, ?_⟩
    obtain ⟨ro, hro⟩ : ∃ ro : Int, (bo + to) * ma = ro := ⟨_, rfl⟩
    have ro0 : 0 ≤ ro ∧ ro ≤ 18000000000 := by
      rw [← hro]
      constructor
      · exact Int.mul_nonneg (by omega) (by omega)
      · exact Int.le_trans (Int.mul_le_mul_of_nonneg_left m0.2 (by omega)) (by omega)
    dsimp only
    rw [hro]
    refine ⟨_, rfl, _, rfl, _, _, rfl, rfl, .inl ⟨by decide, by decide⟩, _, _, rfl, rfl, a, _, _, rfl, w7, by omega, by omega, Nat.lt_of_le_of_lt (show _ ≤ 2 ^ 40 by omega) (by decide), fun r8 H8 r80 r81 d8 e8 w8 => ⟨_, rfl, _, _, rfl, rfl, _, rfl, _, rfl, _, _, rfl, rfl, (by show 4 ≤ sizeLine; decide), fun l8 hl8 => ?_⟩⟩
    refine ⟨_, rfl, a, _, 4, rfl, (w8.same (same_new hl8)), by omega, by decide, by decide, fun r9 H9 r90 r91 d9 e9 w9 => ?_⟩
    obtain ⟨fi, hfi, vfi⟩ := pick4 (r8 - ro) ro (0 - ro) 0 r90 r91
    refine ⟨l8, _, _, _, rfl, rfl, SqL.of (d9 _ _ (w8.ne hl8) upd_same), hfi, ?_⟩
    have D9 := D5.trans (d7.trans (d8.trans ((SameBut.of (same_new hl8)).trans d9)))
    have f0 : -ro ≤ fi ∧ fi ≤ ro := by omega
    have bm : 0 < bo * ma := Int.mul_pos b0.1 m0.1
    have bm1 : bo * ma ≤ 9000000000 := Int.le_trans (Int.mul_le_mul_of_nonneg_left m0.2 (by omega)) (by omega)
    refine ⟨_, rfl, _, rfl, _, rfl, _, _, rfl, rfl, .inr ⟨by omega, by omega⟩, fi, bo * ma, rfl, bm, Nat.lt_of_le_of_lt (show _ ≤ 2 ^ 40 by omega) (by decide), fun p1 hp1 => ?_⟩
    refine ⟨_, rfl, _, rfl, to, bo, rfl, b0.1, Nat.lt_of_le_of_lt (show _ ≤ 2 ^ 40 by omega) (by decide), fun p2 hp2 => ⟨(by show 2 ≤ sizeLine; decide), fun u hu => ?_⟩⟩
    have s1 := same_new (o := .tup [.int (lowT fi (bo * ma)), .int (lowB fi (bo * ma))]) hp1
    have s2 := same_new (o := .tup [.int (lowT to bo), .int (lowB to bo)]) hp2
    have s3 := same_new (o := .tup [.ref p1, .ref p2]) hu
    refine q u p1 p2 (lowT fi (bo * ma)) (lowB fi (bo * ma)) (lowT to bo) (lowB to bo) _ (D9.trans (SameBut.of (s1.trans (s2.trans s3)))) upd_same fun E e1 e2 => ?_
    have lT : ∀ x y : Int, (lowT x y).natAbs ≤ x.natAbs := fun x y => by
      unfold lowT
      refine Nat.le_trans (Int.natAbs_ediv_le_natAbs _ _) ?_
      split <;> omega
    have lB : ∀ x y : Int, (lowB x y).natAbs ≤ y.natAbs := fun x y => by
      unfold lowB
      refine Nat.le_trans (Int.natAbs_ediv_le_natAbs _ _) ?_
      split <;> omega
    have l1 := lT fi (bo * ma)
    have l2 := lB fi (bo * ma)
    have l3 := lT to bo
    have l4 := lB to bo
    refine ⟨s3 _ _ (s2 _ _ upd_same), s3 _ _ upd_same, low_gcd (by omega), low_gcd (by omega), low_wn b0.1 m0.1 t0.1 t0.2 (by rw [hro]; exact f0.1) (by rw [hro]; exact f0.2) e1, ?_, ?_, ?_, ?_, e2⟩
    all_goals omega
theorem sc__law_off : FnScope ["_law_pair", "_law_this", "_law_both", "_law_scale", "_law_first"] ["_law_pair", "_law_this", "_law_both", "_law_scale"] (defScope s__law_off) := ⟨rfl, rfl, rfl, by decide +kernel, rfl, by decide +kernel, by decide +kernel⟩
theorem ok__law_off {f : Addr} {fd : FuncData} {k : Nat} (F : Fun K "_law_off" "_law_off" s__law_off f fd) (z : Zs mg) : FnOk P w K mg base CX0 (k + 1) f fd ["_law_pair", "_law_this", "_law_both", "_law_scale"] (spOff K) := by
  refine F.ok sc__law_off (fun vs H Q E h => ?_) (fun cdv A outer s H vs Q E hr h => ?_)
  · obtain ⟨pp, p1, p2, b, c, t1, b1, t2, b2, E, rfl, _⟩ := h
    rfl
  · obtain ⟨pp, p1, p2, b, c, t1, b1, t2, b2, E, rfl, hp, W, q⟩ := h
    refine ⟨_, (pss_cons (ps_set (i := 4) sc__law_off.nd rfl (.inl rfl) (pe_op op_mul (pe_callB call_abs (by rfl) z.abs (by decide +kernel) (pa_cons (pe_op op_sub (pe_op op_mul (pe_ix ix_tup (pv 0) pe_int (fun _ _ => rfl)) (pe_ix ix_tup (pv 1) pe_int (fun _ _ => rfl))) (pe_op op_mul (pe_ix ix_tup (pv 1) pe_int (fun _ _ => rfl)) (pv 3))) pa_nil)) (pe_ix ix_tup (pv 2) pe_int (fun _ _ => rfl))))
      (pss_one (ps_ret (pe_callB (call_max2 rfl) (by rfl) z.max (by decide +kernel) (pa_cons (pv 4) (pa_cons (pe_op op_mul (pe_callB call_abs (by rfl) z.abs (by decide +kernel) (pa_cons (pe_op op_sub (pe_op op_mul (pe_ix ix_tup (pv 0) pe_int (fun _ _ => rfl)) (pe_ix ix_tup (pv 2) pe_int (fun _ _ => rfl))) (pe_op op_mul (pe_ix ix_tup (pv 2) pe_int (fun _ _ => rfl)) (pv 3))) pa_nil)) (pe_ix ix_tup (pv 1) pe_int (fun _ _ => rfl))) pa_nil)))))), ?_⟩
    obtain ⟨x1, x2, _, _, wn, l1, l2, l3, l4, lE⟩ := W
    have we := wn.e
    have w1 := wn.p1
    have w2 := wn.p2
    refine ⟨_, rfl, pp, _, 0, _, rfl, rfl, hp, a0, _, rfl, p1, _, 1, _, rfl, rfl, SqT.of x1, a1, _, _, rfl, rfl, .inr ⟨by omega, by omega⟩, _, rfl, p1, _, 0, _, rfl, rfl, SqT.of x1, a0, _, rfl, _, _, rfl, rfl, .inr ⟨by omega, by omega⟩, _, _, rfl, rfl, _, rfl, _, rfl, p2, _, 1, _, rfl, rfl, SqT.of x2, a1, _, _, rfl, rfl, .inr ⟨by omega, by omega⟩, ?_⟩
    exact ⟨_, rfl, _, rfl, pp, _, 1, _, rfl, rfl, hp, a1, _, rfl, p2, _, 1, _, rfl, rfl, SqT.of x2, a1, _, _, rfl, rfl, .inr ⟨by omega, by omega⟩, _, rfl, p2, _, 0, _, rfl, rfl, SqT.of x2, a0, _, rfl, _, _, rfl, rfl, .inr ⟨by omega, by omega⟩, _, _, rfl, rfl, _, rfl, _, rfl, p1, _, 1, _, rfl, rfl, SqT.of x1, a1, _, _, rfl, rfl, .inr ⟨by omega, by omega⟩, _, _, rfl, q⟩
theorem sc__law_word : FnScope ["_law_pair", "_law_scale"] ["_law_pair", "_law_scale"] (defScope s__law_word) := ⟨rfl, rfl, rfl, by decide +kernel, rfl, by decide +kernel, by decide +kernel⟩
theorem ok__law_word {f : Addr} {fd : FuncData} {k : Nat} (F : Fun K "_law_word" "_law_word" s__law_word f fd) (z : Zs mg) : FnOk P w K mg base CX0 (k + 1) f fd ["_law_pair", "_law_scale"] (spWord K) := by
  refine F.ok sc__law_word (fun vs H Q E h => ?_) (fun cdv A outer s H vs Q E hr h => ?_)
  · obtain ⟨pp, b, c, E, rfl, _⟩ := h
    rfl
  · obtain ⟨pp, b, c, E, rfl, hp, q⟩ := h
    refine ⟨_, (pss_cons (ps_if (pt_cmpR op_ge (pe_callB call_abs (by rfl) z.abs (by decide +kernel) (pa_cons (pe_ix ix_tup (pv 0) pe_int (fun _ _ => rfl)) pa_nil)) (pv 1) (nomark _)) (pss_one (ps_ret pe_str)) pss_nil)
      (pss_one (ps_ret (pe_ix ix_list (pe_lst (pa_cons pe_str (pa_cons pe_str pa_nil))) (pe_callTy call_int1 (by rfl) z.int (by decide +kernel) (pa_cons (pe_cmpR op_lt (pe_callB call_abs (by rfl) z.abs (by decide +kernel) (pa_cons (pe_ix ix_tup (pv 0) pe_int (fun _ _ => rfl)) pa_nil)) (pe_op op_add (pv 1) (pe_ix ix_tup (pv 0) pe_int (fun _ _ => rfl))) (nomark _)) pa_nil)) (fun _ _ => rfl))))), ?_⟩
    unfold wordS at q
    refine ⟨_, rfl, pp, _, 1, _, rfl, rfl, hp, a1, _, rfl, _, rfl, _, _, rfl, rfl, _, rfl, ite2 (fun x => ?_) (fun x => ?_)⟩
    · have hc : absI c ≥ E := toB x
      rw [if_pos (by omega)] at q
      exact q _ (Same.refl _)
    · have hc : ¬ absI c ≥ E := toNB x
      rw [if_neg (by omega)] at q
      refine ⟨(by show 2 ≤ sizeLine; decide), fun l hl => ?_⟩
      have s1 := same_new (o := .lst [.str "one", .str ""]) hl
      refine ⟨_, rfl, pp, _, 0, _, rfl, rfl, Same.tup s1 hp, a0, _, rfl, _, rfl, _, rfl, pp, _, 1, _, rfl, rfl, Same.tup s1 hp, a1, _, _, rfl, rfl, _, _, rfl, rfl, .inr ⟨_, rfl, ?_⟩⟩
      show rIxL K _ _ _ _
      by_cases cc : absI b < E + c
      · rw [if_pos cc] at q
        refine ⟨l, _, _, .str "", rfl, rfl, SqL.of upd_same, ?_, q _ s1⟩
        rw [decide_eq_true (show (if b < 0 then -b else b) < E + c from cc)]
        exact atI_nat (j := 1) rfl
      · rw [if_neg cc] at q
        refine ⟨l, _, _, .str "one", rfl, rfl, SqL.of upd_same, ?_, q _ s1⟩
        rw [decide_eq_false (show ¬ (if b < 0 then -b else b) < E + c from cc)]
        exact atI_nat (j := 0) rfl
theorem sc__law_same : FnScope ["_law_found", "_law_due", "_law_this", "_law_other"] ["_law_found", "_law_due"] (defScope s__law_same) := ⟨rfl, rfl, rfl, by decide +kernel, rfl, by decide +kernel, by decide +kernel⟩
theorem ok_same {f : Addr} {fd : FuncData} {k n : Nat} (F : Fun K "_law_same" "_law_same" s__law_same f fd) (z : Zs mg) (c__law_same : Cal P w K mg base k "_law_same" ["_law_found", "_law_due"] (spSameN n)) : FnOk P w K mg base CX0 (k + 1) f fd ["_law_found", "_law_due"] (spSameN (n + 1)) := by
  refine F.ok sc__law_same (fun vs H Q E h => ?_) (fun cdv A outer s H vs Q E hr h => ?_)
  · obtain ⟨x, y, rfl, _⟩ := h
    rfl
  · obtain ⟨x, y, rfl, hh, q⟩ := h
    refine ⟨_, (pss_cons (ps_if (pt_val (pe_callB call_isiT (by rfl) z.isinstance (by decide +kernel) (pa_cons (pv 1) (pa_cons (pe_tup (pa_cons (pe_bltn (v := .ty "list") (by rfl) z.list (by decide +kernel) rfl) (pa_cons (pe_bltn (v := .ty "tuple") (by rfl) z.tuple (by decide +kernel) rfl) pa_nil))) pa_nil)))) (pss_cons (ps_if (PW.pt (pw_or (pt_cmpR op_ne (pe_callB call_isi (by rfl) z.isinstance (by decide +kernel) (pa_cons (pv 1) (pa_cons (pe_bltn (v := .ty "list") (by rfl) z.list (by decide +kernel) rfl) pa_nil))) (pe_callB call_isi (by rfl) z.isinstance (by decide +kernel) (pa_cons (pv 0) (pa_cons (pe_bltn (v := .ty "list") (by rfl) z.list (by decide +kernel) rfl) pa_nil))) (nomark _)) (pw_or1 (pt_cmpR op_ne (pe_callB call_isi (by rfl) z.isinstance (by decide +kernel) (pa_cons (pv 1) (pa_cons (pe_bltn (v := .ty "tuple") (by rfl) z.tuple (by decide +kernel) rfl) pa_nil))) (pe_callB call_isi (by rfl) z.isinstance (by decide +kernel) (pa_cons (pv 0) (pa_cons (pe_bltn (v := .ty "tuple") (by rfl) z.tuple (by decide +kernel) rfl) pa_nil))) (nomark _))))) (pss_one (ps_ret pe_bl)) pss_nil)
      (pss_one (ps_ret (pe_and (pe_cmpR op_eq (pe_callB call_len_seq (by rfl) z.len PySem.boot_len (pa_cons (pv 0) pa_nil)) (pe_callB call_len_seq (by rfl) z.len PySem.boot_len (pa_cons (pv 1) pa_nil)) (nomark _)) (pe_one (pe_callB (cr_all rfl) (by rfl) z.all (by decide +kernel) (pa_cons (pe_lc (own := [("_law_this", 2), ("_law_other", 3)]) (g := gTup K 2 (gCons (gName 2) (gCons (gName 3) gNil))) (tt := tYes) (te := (tCall (spSameN n) [] E0 (tCons (tVar 2) (tCons (tVar 3) tNil)))) (by rfl) sc__law_same.nd (RZ.pi_zipA (by rfl) z.zip (pa_cons (pv 0) (pa_cons (pv 1) pa_nil))) (blkOk_by (own := [("_law_this", 2), ("_law_other", 3)]) (N := ["_law_found", "_law_due", "_law_this", "_law_other"]) (sc := defScope s__law_same) (by decide +kernel)) (fun _ _ _ _ _ => by exact (pg_tup (by rfl) (pgs_cons (pg_name (i := 2) sc__law_same.nd rfl (.inl rfl)) (pgs_cons (pg_name (i := 3) sc__law_same.nd rfl (.inl rfl)) pgs_nil)))) (fun _ _ _ _ _ => by exact pts_nil) (fun _ _ _ _ _ => by exact (pe_cal (hle := Nat.le_refl _) c__law_same hr (pa_cons (pv 2) (pa_cons (pv 3) pa_nil))))) pa_nil))))))) pss_nil)
      (pss_cons (ps_if (pt_cmpR op_isN (pv 1) pe_non (nomark _)) (pss_one (ps_ret (pe_cmpR op_isN (pv 0) pe_non (nomark _)))) pss_nil)
      (pss_cons (ps_if (pt_val (pe_callB call_isiT (by rfl) z.isinstance (by decide +kernel) (pa_cons (pv 1) (pa_cons (pe_tup (pa_cons (pe_bltn (v := .ty "bool") (by rfl) z.bool (by decide +kernel) rfl) (pa_cons (pe_bltn (v := .ty "str") (by rfl) z.str (by decide +kernel) rfl) pa_nil))) pa_nil)))) (pss_one (ps_ret (pe_and (pe_cmpR op_eq (pe_callB call_isi (by rfl) z.isinstance (by decide +kernel) (pa_cons (pv 0) (pa_cons (pe_bltn (v := .ty "bool") (by rfl) z.bool (by decide +kernel) rfl) pa_nil))) (pe_callB call_isi (by rfl) z.isinstance (by decide +kernel) (pa_cons (pv 1) (pa_cons (pe_bltn (v := .ty "bool") (by rfl) z.bool (by decide +kernel) rfl) pa_nil))) (nomark _)) (pe_one (pe_cmpR op_eq (pv 0) (pv 1) (nomark _)))))) pss_nil)
      (pss_one (ps_ret (pe_and (pe_callB call_isi (by rfl) z.isinstance (by decide +kernel) (pa_cons (pv 0) (pa_cons (pe_bltn (v := .ty "int") (by rfl) z.int (by decide +kernel) rfl) pa_nil))) (pe_and (pe_not (pe_callB call_isi (by rfl) z.isinstance (by decide +kernel) (pa_cons (pv 0) (pa_cons (pe_bltn (v := .ty "bool") (by rfl) z.bool (by decide +kernel) rfl) pa_nil)))) (pe_one (pe_cmpR op_eq (pv 0) (pv 1) (nomark _)))))))))), ?_⟩
    rcases hh with ⟨rfl, hf⟩ | ⟨a, c, xs, ys, rfl, rfl, hlen, hmax, hal, hk⟩
    · cases hf with
      | int i =>
        refine ⟨_, rfl, (by show 2 ≤ sizeLine; decide), fun p hp => ⟨_, p, _, _, _, false, rfl, upd_same, .cons (.ty _) (.cons (.ty _) .nil), .base (.int i), kit2 (t := "int") (a := "list") (b := "tuple") (r1 := false) (r2 := false) (by decide +kernel) (by decide +kernel), _, rfl, iteF ?_⟩⟩
        refine ⟨_, rfl, rfl, _, rfl, ite2 (fun c => absurd (toB c) (fun e => nomatch e)) (fun _ => ?_)⟩
        refine ⟨_, rfl, (by show 2 ≤ sizeLine; decide), fun p2 hp2 => ⟨_, p2, _, _, _, false, rfl, upd_same, .cons (.ty _) (.cons (.ty _) .nil), .base (.int i), kit2 (t := "int") (a := "bool") (b := "str") (r1 := false) (r2 := false) (by decide +kernel) (by decide +kernel), _, rfl, iteF ?_⟩⟩
        refine ⟨_, rfl, _, .ty "int", _, _, true, rfl, .ty _, .base (.int i), kit_ty (by decide +kernel), _, rfl, iteT ⟨_, rfl, _, .ty "bool", _, _, false, rfl, .ty _, .base (.int i), kit_ty (by decide +kernel), _, rfl, _, rfl, iteT ⟨_, rfl, _, rfl, rfl, ?_⟩⟩⟩
        rw [decide_eq_true rfl]
        exact q _ ((same_new hp).trans (same_new hp2))
      | bl b =>
        refine ⟨_, rfl, (by show 2 ≤ sizeLine; decide), fun p hp => ⟨_, p, _, _, _, false, rfl, upd_same, .cons (.ty _) (.cons (.ty _) .nil), .base (.bl b), kit2 (t := "bool") (a := "list") (b := "tuple") (r1 := false) (r2 := false) (by decide +kernel) (by decide +kernel), _, rfl, iteF ?_⟩⟩
        refine ⟨_, rfl, rfl, _, rfl, ite2 (fun c => absurd (toB c) (fun e => nomatch e)) (fun _ => ?_)⟩
        refine ⟨_, rfl, (by show 2 ≤ sizeLine; decide), fun p2 hp2 => ⟨_, p2, _, _, _, true, rfl, upd_same, .cons (.ty _) (.cons (.ty _) .nil), .base (.bl b), kit2 (t := "bool") (a := "bool") (b := "str") (r1 := true) (r2 := false) (by decide +kernel) (by decide +kernel), _, rfl, iteT ?_⟩⟩
        refine ⟨_, rfl, _, .ty "bool", _, _, true, rfl, .ty _, .base (.bl b), kit_ty (by decide +kernel), _, rfl, _, .ty "bool", _, _, true, rfl, .ty _, .base (.bl b), kit_ty (by decide +kernel), rfl, _, rfl, ?_⟩
        rw [decide_eq_true rfl]
        refine iteT ⟨_, rfl, _, rfl, rfl, ?_⟩
        rw [decide_eq_true rfl]
        exact q _ ((same_new hp).trans (same_new hp2))
      | str t =>
        refine ⟨_, rfl, (by show 2 ≤ sizeLine; decide), fun p hp => ⟨_, p, _, _, _, false, rfl, upd_same, .cons (.ty _) (.cons (.ty _) .nil), .base (.str t), kit2 (t := "str") (a := "list") (b := "tuple") (r1 := false) (r2 := false) (by decide +kernel) (by decide +kernel), _, rfl, iteF ?_⟩⟩
        refine ⟨_, rfl, rfl, _, rfl, ite2 (fun c => absurd (toB c) (fun e => nomatch e)) (fun _ => ?_)⟩
        refine ⟨_, rfl, (by show 2 ≤ sizeLine; decide), fun p2 hp2 => ⟨_, p2, _, _, _, true, rfl, upd_same, .cons (.ty _) (.cons (.ty _) .nil), .base (.str t), kit2 (t := "str") (a := "bool") (b := "str") (r1 := false) (r2 := true) (by decide +kernel) (by decide +kernel), _, rfl, iteT ?_⟩⟩
        refine ⟨_, rfl, _, .ty "bool", _, _, false, rfl, .ty _, .base (.str t), kit_ty (by decide +kernel), _, rfl, _, .ty "bool", _, _, false, rfl, .ty _, .base (.str t), kit_ty (by decide +kernel), rfl, _, rfl, ?_⟩
        rw [decide_eq_true rfl]
        refine iteT ⟨_, rfl, _, rfl, rfl, ?_⟩
        rw [decide_eq_true rfl]
        exact q _ ((same_new hp).trans (same_new hp2))
      | non =>
        refine ⟨_, rfl, (by show 2 ≤ sizeLine; decide), fun p hp => ⟨_, p, _, _, _, false, rfl, upd_same, .cons (.ty _) (.cons (.ty _) .nil), .base .non, kit2 (t := "NoneType") (a := "list") (b := "tuple") (r1 := false) (r2 := false) (by decide +kernel) (by decide +kernel), _, rfl, iteF ?_⟩⟩
        refine ⟨_, rfl, rfl, _, rfl, ?_⟩
        rw [decide_eq_true rfl]
        refine iteT ⟨_, rfl, rfl, ?_⟩
        rw [decide_eq_true rfl]
        exact q _ (same_new hp)
    · rcases hk with ⟨h1, h2⟩ | ⟨h1, h2⟩
      · refine ⟨_, rfl, (by show 2 ≤ sizeLine; decide), fun p hp => ⟨_, p, _, _, _, true, rfl, upd_same, .cons (.ty _) (.cons (.ty _) .nil), .base (.tup (same_new hp _ _ h2)), kit2 (t := "tuple") (a := "list") (b := "tuple") (r1 := false) (r2 := true) (by decide +kernel) (by decide +kernel), _, rfl, iteT ?_⟩⟩
        have s1 : Same H (upd H p (.tup [V.ty "list", V.ty "tuple"])) := same_new hp
        have k1 := s1 _ _ h1
        have k2 := s1 _ _ h2
        refine ⟨_, rfl, _, .ty "list", _, _, false, rfl, .ty _, .base (.tup k2), kit_ty (by decide +kernel), _, rfl, _, .ty "list", _, _, false, rfl, .ty _, .base (.tup k1), kit_ty (by decide +kernel), rfl, _, rfl, iteNS rfl ?_⟩
        refine ⟨_, rfl, _, .ty "tuple", _, _, true, rfl, .ty _, .base (.tup k2), kit_ty (by decide +kernel), _, rfl, _, .ty "tuple", _, _, true, rfl, .ty _, .base (.tup k1), kit_ty (by decide +kernel), rfl, _, rfl, iteNS rfl ?_⟩
        refine ⟨_, rfl, a, xs, rfl, .inr (SqT.of k1), _, rfl, c, ys, rfl, .inr (SqT.of k2), rfl, _, rfl, ?_⟩
        rw [decide_eq_true (by rw [hlen])]
        refine iteT ⟨_, rfl, _, rfl, a, c, xs, ys, rfl, .inr ⟨SqT.of k1, SqT.of k2, fun D hD => ?_⟩⟩
        refine lc_it (walk_zipT (K := K) (a := a) (b := c) (xs := xs) (ys := ys) rfl) (fun i H2 => Same (upd H p (.tup [V.ty "list", V.ty "tuple"])) H2 ∧ H2 D = some (.lst (List.replicate i (V.bl true))))
          ⟨same_new hD, upd_same⟩ (fun i H2 _ hP => ⟨SqT.of (hP.1 _ _ k1), SqT.of (hP.1 _ _ k2)⟩) (fun i x H2 H3 hi hP hY => ?_) (fun H2 hP => ?_)
        · obtain ⟨s2, hD2⟩ := hP
          obtain ⟨Tp, u, v, rfl, nT, rfl, e1, e2⟩ := hY
          have fu := hal i u v e1 e2
          refine ⟨Tp, [u, v], rfl, SqT.of upd_same, rfl, _, _, rfl, _, _, rfl, rfl, rfl, ?_⟩
          refine ⟨_, rfl, _, rfl, u, v, rfl, Al.same ((s1.trans s2).trans (same_new nT)) n u v fu, fun H4 s4 => ?_⟩
          have s5 : Same H2 H4 := (same_new nT).trans s4
          have hil : i < 1001 := by
            rw [hlen, Nat.min_self] at hi
            omega
          refine ⟨_, s5 _ _ hD2, ?_, fun b o e => ?_, ?_⟩
          · rw [List.length_replicate]
            exact small1000 (by omega)
          · rw [upd_ne (ne_of_none e hD)]
            exact s5 _ _ (s2 _ _ e)
          · rw [upd_same, rep_more]
        · obtain ⟨s2, hD2⟩ := hP
          refine ⟨D, List.replicate _ true, rfl, SqL.of (by rw [rep_map]; exact hD2), ?_⟩
          rw [rep_all]
          exact q _ (s1.trans s2)
      · refine ⟨_, rfl, (by show 2 ≤ sizeLine; decide), fun p hp => ⟨_, p, _, _, _, true, rfl, upd_same, .cons (.ty _) (.cons (.ty _) .nil), .base (.lst (same_new hp _ _ h2)), kit2 (t := "list") (a := "list") (b := "tuple") (r1 := true) (r2 := false) (by decide +kernel) (by decide +kernel), _, rfl, iteT ?_⟩⟩
        have s1 : Same H (upd H p (.tup [V.ty "list", V.ty "tuple"])) := same_new hp
        have k1 := s1 _ _ h1
        have k2 := s1 _ _ h2
        refine ⟨_, rfl, _, .ty "list", _, _, true, rfl, .ty _, .base (.lst k2), kit_ty (by decide +kernel), _, rfl, _, .ty "list", _, _, true, rfl, .ty _, .base (.lst k1), kit_ty (by decide +kernel), rfl, _, rfl, iteNS rfl ?_⟩
        refine ⟨_, rfl, _, .ty "tuple", _, _, false, rfl, .ty _, .base (.lst k2), kit_ty (by decide +kernel), _, rfl, _, .ty "tuple", _, _, false, rfl, .ty _, .base (.lst k1), kit_ty (by decide +kernel), rfl, _, rfl, iteNS rfl ?_⟩
        refine ⟨_, rfl, a, xs, rfl, .inl (SqL.of k1), _, rfl, c, ys, rfl, .inl (SqL.of k2), rfl, _, rfl, ?_⟩
        rw [decide_eq_true (by rw [hlen])]
        refine iteT ⟨_, rfl, _, rfl, a, c, xs, ys, rfl, .inl ⟨SqL.of k1, SqL.of k2, fun D hD => ?_⟩⟩
        refine lc_it (walk_zip (K := K) (a := a) (b := c) (xs := xs) (ys := ys) rfl) (fun i H2 => Same (upd H p (.tup [V.ty "list", V.ty "tuple"])) H2 ∧ H2 D = some (.lst (List.replicate i (V.bl true))))
          ⟨same_new hD, upd_same⟩ (fun i H2 _ hP => ⟨SqL.of (hP.1 _ _ k1), SqL.of (hP.1 _ _ k2)⟩) (fun i x H2 H3 hi hP hY => ?_) (fun H2 hP => ?_)
        · obtain ⟨s2, hD2⟩ := hP
          obtain ⟨Tp, u, v, rfl, nT, rfl, e1, e2⟩ := hY
          have fu := hal i u v e1 e2
          refine ⟨Tp, [u, v], rfl, SqT.of upd_same, rfl, _, _, rfl, _, _, rfl, rfl, rfl, ?_⟩
          refine ⟨_, rfl, _, rfl, u, v, rfl, Al.same ((s1.trans s2).trans (same_new nT)) n u v fu, fun H4 s4 => ?_⟩
          have s5 : Same H2 H4 := (same_new nT).trans s4
          have hil : i < 1001 := by
            rw [hlen, Nat.min_self] at hi
            omega
          refine ⟨_, s5 _ _ hD2, ?_, fun b o e => ?_, ?_⟩
          · rw [List.length_replicate]
            exact small1000 (by omega)
          · rw [upd_ne (ne_of_none e hD)]
            exact s5 _ _ (s2 _ _ e)
          · rw [upd_same, rep_more]
        · obtain ⟨s2, hD2⟩ := hP
          refine ⟨D, List.replicate _ true, rfl, SqL.of (by rw [rep_map]; exact hD2), ?_⟩
          rw [rep_all]
          exact q _ (s1.trans s2)

theorem ok_sameN {f : Addr} {fd : FuncData} {k : Nat} (F : Fun K "_law_same" "_law_same" s__law_same f fd) : FnOk P w K mg base CX0 (k + 1) f fd ["_law_found", "_law_due"] (spSameN 0) := by
  refine F.ok sc__law_same (fun vs H Q E h => ?_) (fun cdv A outer s H vs Q E hr h => ?_)
  · obtain ⟨_, _, _, h, _⟩ := h
    exact False.elim h
  · obtain ⟨_, _, _, h, _⟩ := h
    exact False.elim h
end
end E1

namespace E1
open PySem PySem.Spec PyProof.Rows L2

def spLaw (K : PySem.W.Frag) : Sp := fun vs H Q _ => ∃ (a : Addr) (ns : List Int), vs = [.ref a] ∧ SqL K H a (ns.map V.int) ∧ ns.length ≤ 63 ∧ ∀ H', Q (.bl true) H'
/-- the k-th pair of the law's sixty-four, and those ahead of hh -/
def pb (t b E : Int) (k : Nat) : Int := t * E / b - 3 + (k / 8 : Nat)
def pc (t b E : Int) (k : Nat) : Int := t * E / b - 3 + (k % 8 : Nat)
def rowk (t1 b1 t2 b2 E : Int) (k : Nat) : Int × Int × Bool := (pb t1 b1 E k, pc t2 b2 E k, decide (¬ absI (pc t2 b2 E k) < E))
def aheadk (t1 b1 t2 b2 E : Int) (hh : T3) (k : Nat) : Bool := lt3 (tr t1 b1 t2 b2 E (pb t1 b1 E k) (pc t2 b2 E k)) hh
def dueL (t1 b1 t2 b2 E : Int) (hh : T3) (n : Nat) : List (Int × Int × Bool) := ((List.range n).filter (aheadk t1 b1 t2 b2 E hh)).map (rowk t1 b1 t2 b2 E)
theorem due_len (t1 b1 t2 b2 E : Int) (hh : T3) (n : Nat) : (dueL t1 b1 t2 b2 E hh n).length ≤ n := by
  unfold dueL
  rw [List.length_map]
  exact Nat.le_trans (List.length_filter_le _ _) (by rw [List.length_range]; exact Nat.le_refl _)
theorem due_yes {t1 b1 t2 b2 E : Int} {hh : T3} {n : Nat} (h : aheadk t1 b1 t2 b2 E hh n = true) : dueL t1 b1 t2 b2 E hh (n + 1) = dueL t1 b1 t2 b2 E hh n ++ [rowk t1 b1 t2 b2 E n] := by
  unfold dueL
  rw [List.range_succ, List.filter_append, List.map_append, List.filter_cons, if_pos h]
  rfl
theorem due_no {t1 b1 t2 b2 E : Int} {hh : T3} {n : Nat} (h : aheadk t1 b1 t2 b2 E hh n = false) : dueL t1 b1 t2 b2 E hh (n + 1) = dueL t1 b1 t2 b2 E hh n := by
  unfold dueL
  rw [List.range_succ, List.filter_append, List.map_append, List.filter_cons, if_neg (by rw [h]; decide)]
  exact List.append_nil _
theorem due_near {t1 b1 t2 b2 E bB cB : Int} {rows : List (Int × Int × Bool)} (W : Wn t1 b1 t2 b2 E) (N : NearIs t1 b1 t2 b2 E bB cB rows) {ws : List (Int × Int × Bool)} (pm : ws.Perm (dueL t1 b1 t2 b2 E (tr t1 b1 t2 b2 E bB cB) 64)) (pw : ws.Pairwise fun x y => leW x y = true) : ws = rows := by
  have nd : (dueL t1 b1 t2 b2 E (tr t1 b1 t2 b2 E bB cB) 64).Nodup := by
    unfold dueL
    refine List.pairwise_map.mpr (List.Pairwise.imp (fun {x y} ne e => ne ?_) (List.Pairwise.filter _ List.nodup_range))
    have e1 : pb t1 b1 E x = pb t1 b1 E y := congrArg (fun p : Int × Int × Bool => p.1) e
    have e2 : pc t2 b2 E x = pc t2 b2 E y := congrArg (fun p : Int × Int × Bool => p.2.1) e
    unfold pb at e1
    unfold pc at e2
    omega
  refine rows_same pw N.pw (pm.nodup_iff.mpr nd) N.nd fun ⟨b, c, t⟩ => ?_
  rw [pm.mem_iff, N.mem]
  unfold dueL
  rw [List.mem_map]
  constructor
  · rintro ⟨k, hk, e⟩
    have e1 : pb t1 b1 E k = b := congrArg (fun p : Int × Int × Bool => p.1) e
    have e2 : pc t2 b2 E k = c := congrArg (fun p : Int × Int × Bool => p.2.1) e
    have e3 : decide (¬ absI (pc t2 b2 E k) < E) = t := congrArg (fun p : Int × Int × Bool => p.2.2) e
    have h := (List.mem_filter.mp hk).2
    unfold aheadk at h
    rw [e1, e2] at h
    rw [e2] at e3
    exact ⟨h, e3.symm⟩
  · rintro ⟨h, rfl⟩
    have of : offI t1 b1 t2 b2 E b c ≤ 2 * b1 * b2 := by
      have a := of_decide_eq_false (Bool.not_eq_true' _ ▸ h)
      have a2 : ¬ (offI t1 b1 t2 b2 E bB cB < offI t1 b1 t2 b2 E b c) := fun z => a (.inl z)
      have := N.off
      omega
    obtain ⟨⟨g1, g2⟩, g3, g4⟩ := off_grid W of
    obtain ⟨k, hk, k1, k2⟩ : ∃ k : Nat, k < 64 ∧ pb t1 b1 E k = b ∧ pc t2 b2 E k = c := by
      refine ⟨(b - (t1 * E / b1 - 3)).toNat * 8 + (c - (t2 * E / b2 - 3)).toNat, by omega, ?_, ?_⟩
      · unfold pb
        omega
      · unfold pc
        omega
    refine ⟨k, List.mem_filter.mpr ⟨List.mem_range.mpr hk, ?_⟩, ?_⟩
    · unfold aheadk
      rw [k1, k2]
      exact h
    · unfold rowk
      rw [k1, k2]
theorem no_empty : ∀ ts : List Bool, inV (.str "") (ts.map fun t => V.str (wS t)) = false
  | [] => rfl
  | t :: ts => by
    have := no_empty ts
    cases t
    · exact this
    · exact this
theorem al3 (n : Nat) {H : Hp} {p t : Addr} {x y : Int} {u v : V} (h1 : H p = some (.tup [.int x, .int y, u])) (h2 : H t = some (.tup [.int x, .int y, v])) (hb : Al H (n + 3) u v) : Al H (n + 4) (.ref p) (.ref t) := by
  refine .inr ⟨p, t, [.int x, .int y, u], [.int x, .int y, v], rfl, rfl, rfl, (by show 3 ≤ 1000; decide), fun i a b e1 e2 => ?_, .inl ⟨h1, h2⟩⟩
  match i, e1, e2 with
  | 0, e1, e2 => cases e1; cases e2; exact Al.int x
  | 1, e1, e2 => cases e1; cases e2; exact Al.int y
  | 2, e1, e2 => cases e1; cases e2; exact hb
  | i + 3, e1, _ => cases e1
theorem pick2i {k x y : Int} (h0 : 0 ≤ k) (h1 : k < 2) (hx : 0 ≤ x ∧ x ≤ 20) (hy : 0 ≤ y ∧ y ≤ 20) : ∃ v : Int, atI [V.int x, V.int y] k = some (.int v) ∧ 0 ≤ v ∧ v ≤ 20 := by
  rcases (by omega : k = 0 ∨ k = 1) with rfl | rfl
  · exact ⟨x, atI_nat (j := 0) rfl, hx⟩
  · exact ⟨y, atI_nat (j := 1) rfl, hy⟩
theorem near_one {t1 b1 t2 b2 E b c b' c' : Int} {rows rows' : List (Int × Int × Bool)} (N : NearIs t1 b1 t2 b2 E b c rows) (N' : NearIs t1 b1 t2 b2 E b' c' rows') : b' = b ∧ c' = c ∧ rows' = rows := by
  have n1 : lt3 (tr t1 b1 t2 b2 E b c) (tr t1 b1 t2 b2 E b' c') = false := by
    cases h : lt3 (tr t1 b1 t2 b2 E b c) (tr t1 b1 t2 b2 E b' c') with
    | false => rfl
    | true =>
      have := N'.no _ _ h
      rw [N.st] at this
      cases this
  have n2 : lt3 (tr t1 b1 t2 b2 E b' c') (tr t1 b1 t2 b2 E b c) = false := by
    cases h : lt3 (tr t1 b1 t2 b2 E b' c') (tr t1 b1 t2 b2 E b c) with
    | false => rfl
    | true =>
      have := N.no _ _ h
      rw [N'.st] at this
      cases this
  have e := le3_anti (Bool.not_eq_false' _ ▸ n1 : le3 (tr t1 b1 t2 b2 E b' c') (tr t1 b1 t2 b2 E b c) = true) (Bool.not_eq_false' _ ▸ n2 : le3 (tr t1 b1 t2 b2 E b c) (tr t1 b1 t2 b2 E b' c') = true)
  have e1 : b' = b := congrArg (fun p : T3 => p.2.1) e
  have e2 : c' = c := congrArg (fun p : T3 => p.2.2) e
  subst e1 e2
  exact ⟨rfl, rfl, rows_same N'.pw N.pw N'.nd N.nd fun ⟨x, y, z⟩ => (N'.mem x y z).trans (N.mem x y z).symm⟩
theorem iteC {c d : Bool} {A B : Prop} (e : c = d) (h : if d = true then A else B) : if c = true then A else B := e ▸ h
/-- the list of the rows that are due -/
def DueAt (H : Hp) (L : Addr) (ds : List (Int × Int × Bool)) : Prop := RowsAt H L ds
section
variable {P : Program} {w : World} {K : PySem.W.Frag} {mg : Str → Option Value} {base : Heap}
theorem sc_law : FnScope ["_law_script", "_law_this", "_law_both", "_law_well_here", "_law_spot", "_law_scale", "_law_found", "_law_here", "_law_due", "_law_first", "_law_second", "_law_row"] ["_law_script"] (defScope s_law) := ⟨rfl, rfl, rfl, by decide +kernel, rfl, by decide +kernel, by decide +kernel⟩
theorem ok_law {f : Addr} {fd : FuncData} (F : Fun K "law" "law" s_law f fd) (z : Zs mg) (c__law_cell_at : Cal P w K mg base 1 "_law_cell_at" ["_law_script", "_law_k"] (spCell K)) (c__law_well : Cal P w K mg base 1 "_law_well" ["_law_cell"] spWell) (c__law_draw : Cal P w K mg base 1 "_law_draw" ["_law_well_here", "_law_many"] spDraw) (c__law_wanted : Cal P w K mg base 2 "_law_wanted" ["_law_well_here"] spWn) (c__law_off : Cal P w K mg base 1 "_law_off" ["_law_pair", "_law_this", "_law_both", "_law_scale"] (spOff K)) (c__law_word : Cal P w K mg base 1 "_law_word" ["_law_pair", "_law_scale"] (spWord K)) (c__law_same : Cal P w K mg base 5 "_law_same" ["_law_found", "_law_due"] (spSameN 4)) (c_nearest_still : Cal P w K mg base 5 "nearest_still" ["one", "two", "point"] spNear) (c_nearest_still_0_point_two_one : CalK P w K mg base 5 "nearest_still" ["one", "two", "point"] 0 ["point", "two", "one"] (fun vs zs => vs ++ zs.reverse) spNear) : FnOk P w K mg base CX0 6 f fd ["_law_script"] (spLaw K) := by
  refine F.ok sc_law (fun vs H Q E h => ?_) (fun cdv A outer s H vs Q E hr h => ?_)
  · obtain ⟨a, ns, rfl, _⟩ := h
    rfl
  · obtain ⟨a, ns, rfl, hS, hn, q⟩ := h
    refine ⟨_, (pss_cons (ps_asg (pe_cal c__law_wanted hr (pa_cons (pe_cal c__law_well hr (pa_cons (pe_cal c__law_cell_at hr (pa_cons (pv 0) (pa_cons pe_int pa_nil))) pa_nil)) pa_nil)) (pg_tup (by rfl) (pgs_cons (pg_name (i := 1) sc_law.nd rfl (.inl rfl)) (pgs_cons (pg_name (i := 2) sc_law.nd rfl (.inl rfl)) pgs_nil))))
      (pss_cons (ps_set (i := 3) sc_law.nd rfl (.inl rfl) (pe_cal c__law_well hr (pa_cons (pe_cal c__law_cell_at hr (pa_cons (pv 0) (pa_cons pe_int pa_nil))) pa_nil)))
      (pss_cons (ps_set (i := 4) sc_law.nd rfl (.inl rfl) (pe_ix ix_list (pe_lst (pa_cons (pe_cal c__law_draw hr (pa_cons (pv 3) (pa_cons pe_int pa_nil))) (pa_cons (pe_cal c__law_draw hr (pa_cons (pv 3) (pa_cons pe_int pa_nil))) pa_nil))) (pe_cal c__law_draw hr (pa_cons (pv 3) (pa_cons pe_int pa_nil))) (fun _ _ => rfl)))
      (pss_cons (ps_set (i := 5) sc_law.nd rfl (.inl rfl) (pe_op op_shl pe_int (pv 4)))
      (C8.pss_cut (ps_set (i := 6) sc_law.nd rfl (.inl rfl) (pe_cal c_nearest_still hr (pa_cons (pv 1) (pa_cons (pv 2) (pa_cons (pv 4) pa_nil)))))
      (pss_cons (ps_if (PW.pt (pw_or (pt_not (pt_val (pe_callB call_isi (by rfl) z.isinstance (by decide +kernel) (pa_cons (pv 6) (pa_cons (pe_bltn (v := .ty "tuple") (by rfl) z.tuple (by decide +kernel) rfl) pa_nil))))) (pw_or (pt_cmpR op_ne (pe_callB call_len_seq (by rfl) z.len PySem.boot_len (pa_cons (pv 6) pa_nil)) pe_int (nomark _)) (pw_or1 (pt_not (pt_val (pe_cal c__law_same hr (pa_cons (pe_callTy call_list_of (by rfl) z.list (by decide +kernel) (pa_cons (pe_slice sl_tup (pv 6) po_none (po_some pe_int)) pa_nil)) (pa_cons (pe_lst (pa_cons (pe_op op_add (pe_ix ix_tup (pv 6) pe_int (fun _ _ => rfl)) pe_int) (pa_cons (pe_op op_add (pe_ix ix_tup (pv 6) pe_int (fun _ _ => rfl)) pe_int) pa_nil))) pa_nil))))))))) (pss_one (ps_ret pe_bl)) pss_nil)
      (C8.pss_cut (ps_set (i := 7) sc_law.nd rfl (.inl rfl) (pe_tup (pa_cons (pe_cal c__law_off hr (pa_cons (pe_slice sl_tup (pv 6) po_none (po_some pe_int)) (pa_cons (pv 1) (pa_cons (pv 2) (pa_cons (pv 5) pa_nil))))) (pa_cons (pe_ix ix_tup (pv 6) pe_int (fun _ _ => rfl)) (pa_cons (pe_ix ix_tup (pv 6) pe_int (fun _ _ => rfl)) pa_nil)))))
      (pss_cons (ps_if (PW.pt (pw_or (pt_cmpR op_ne (pe_cal c__law_word hr (pa_cons (pe_slice sl_tup (pv 6) po_none (po_some pe_int)) (pa_cons (pv 5) pa_nil))) pe_str (nomark _)) (pw_or1 (pt_cmpR op_gt (pe_ix ix_tup (pv 7) pe_int (fun _ _ => rfl)) (pe_op op_mul (pe_op op_mul pe_int (pe_ix ix_tup (pv 1) pe_int (fun _ _ => rfl))) (pe_ix ix_tup (pv 2) pe_int (fun _ _ => rfl))) (nomark _))))) (pss_one (ps_ret pe_bl)) pss_nil)
      (pss_cons (ps_set (i := 8) sc_law.nd rfl (.inl rfl) (pe_lst pa_nil))
      (C8.pss_cut (ps_for PassesOwn.never rfl (pi_range2 (by rfl) z.range (pa_cons (pe_op op_sub (pe_op op_fdivW (pe_op op_mul (pe_ix ix_tup (pv 1) pe_int (fun _ _ => rfl)) (pv 5)) (pe_ix ix_tup (pv 1) pe_int (fun _ _ => rfl))) pe_int) (pa_cons (pe_op op_add (pe_op op_fdivW (pe_op op_mul (pe_ix ix_tup (pv 1) pe_int (fun _ _ => rfl)) (pv 5)) (pe_ix ix_tup (pv 1) pe_int (fun _ _ => rfl))) pe_int) pa_nil))) (pg_name (i := 9) sc_law.nd rfl (.inl rfl)) (pss_one (ps_for PassesOwn.never rfl (pi_range2 (by rfl) z.range (pa_cons (pe_op op_sub (pe_op op_fdivW (pe_op op_mul (pe_ix ix_tup (pv 2) pe_int (fun _ _ => rfl)) (pv 5)) (pe_ix ix_tup (pv 2) pe_int (fun _ _ => rfl))) pe_int) (pa_cons (pe_op op_add (pe_op op_fdivW (pe_op op_mul (pe_ix ix_tup (pv 2) pe_int (fun _ _ => rfl)) (pv 5)) (pe_ix ix_tup (pv 2) pe_int (fun _ _ => rfl))) pe_int) pa_nil))) (pg_name (i := 10) sc_law.nd rfl (.inl rfl)) (pss_one (ps_if (pt_cmpR (op_ltT hr.units0) (pe_tup (pa_cons (pe_cal c__law_off hr (pa_cons (pe_tup (pa_cons (pv 9) (pa_cons (pv 10) pa_nil))) (pa_cons (pv 1) (pa_cons (pv 2) (pa_cons (pv 5) pa_nil))))) (pa_cons (pv 9) (pa_cons (pv 10) pa_nil)))) (pv 7) (nomark _)) (pss_one (ps_expr (pe_bm PySem.F.plainAttrs_list PySem.F.slot_list_append PySem.F.type_list_append mt_append (pv 8) (pa_cons (pe_tup (pa_cons (pv 9) (pa_cons (pv 10) (pa_cons (pe_cal c__law_word hr (pa_cons (pe_tup (pa_cons (pv 9) (pa_cons (pv 10) pa_nil))) (pa_cons (pv 5) pa_nil))) pa_nil)))) pa_nil)))) pss_nil)))))
      (pss_cons (ps_if (PW.pt (pw_or (pt_cmpR op_in_seq pe_str (pe_lc (own := [("_law_row", 11)]) (g := gName 11) (tt := tYes) (te := (tOp (rIxT K) (tVar 11) (tC (.int 2)))) (by rfl) sc_law.nd (pi_list (pv 8)) (blkOk_by (own := [("_law_row", 11)]) (N := ["_law_script", "_law_this", "_law_both", "_law_well_here", "_law_spot", "_law_scale", "_law_found", "_law_here", "_law_due", "_law_first", "_law_second", "_law_row"]) (sc := defScope s_law) (by decide +kernel)) (fun _ _ _ _ _ => by exact (pg_name (i := 11) sc_law.nd rfl (.inl rfl))) (fun _ _ _ _ _ => by exact pts_nil) (fun _ _ _ _ _ => by exact (pe_ix ix_tup (pv 11) pe_int (fun _ _ => rfl)))) (by rfl)) (pw_or1 (pt_not (pt_val (pe_cal c__law_same hr (pa_cons (pe_ix ix_tup (pv 6) pe_int (fun _ _ => rfl)) (pa_cons (pe_callB (cr_sortedE hr.units ordW) (by rfl) z.sorted (by decide +kernel) (pa_cons (pv 8) pa_nil)) pa_nil)))))))) (pss_one (ps_ret pe_bl)) pss_nil)
      (pss_cons (ps_expr (pe_bm PySem.F.plainAttrs_list PySem.F.slot_list_append PySem.F.type_list_append mt_append (pe_ix ix_tup (pv 6) pe_int (fun _ _ => rfl)) (pa_cons pe_int pa_nil)))
      (pss_one (ps_ret (pe_cal c__law_same hr (pa_cons (pe_calk0 c_nearest_still_0_point_two_one hr (pk_cons (pv 4) (pk_cons (pv 2) (pk_cons (pv 1) pk_nil)))) (pa_cons (pe_tup (pa_cons (pe_ix ix_tup (pv 6) pe_int (fun _ _ => rfl)) (pa_cons (pe_ix ix_tup (pv 6) pe_int (fun _ _ => rfl)) (pa_cons (pe_callB (cr_sortedE hr.units ordW) (by rfl) z.sorted (by decide +kernel) (pa_cons (pv 8) pa_nil)) pa_nil)))) pa_nil))))))))))))))))), ?_⟩
    refine ⟨_, rfl, a, ns, 0, rfl, hS, _, rfl, fun w1 hw1 H1 s1 k1 => ?_⟩
    refine ⟨w1, 0, rfl, k1, by decide, fun u p1 p2 t1 b1 t2 b2 H2 d2 hu Wb2 => ?_⟩
    have S2 : Same H H2 := same_but s1 d2 hw1
    refine ⟨u, _, rfl, SqT.of hu, rfl, _, _, rfl, _, _, rfl, rfl, ?_⟩
    refine ⟨_, rfl, a, ns, 1, rfl, S2.seq hS, _, rfl, fun w2 hw2 H3 s3 k3 => ?_⟩
    refine ⟨_, rfl, w2, 0, 4, rfl, k3, by decide, by decide, by decide, fun r4 H4 r40 r41 d4 e4 k4 => ?_⟩
    refine ⟨_, rfl, w2, _, 21, rfl, k4, by decide, by decide, by decide, fun r5 H5 r50 r51 d5 e5 k5 => ⟨(by show 2 ≤ sizeLine; decide), fun l5 hl5 => ?_⟩⟩
    refine ⟨_, rfl, w2, _, 2, rfl, k5.same (same_new hl5), by decide, by decide, by decide, fun r6 H6 r60 r61 d6 e6 k6 => ?_⟩
    obtain ⟨sp, hsp, sp0, sp1⟩ := pick2i (x := r4) (y := r5) r60 r61 (by omega) (by omega)
    refine ⟨l5, _, _, _, rfl, rfl, SqL.of (d6 _ _ (k5.ne hl5) upd_same), hsp, ?_⟩
    have S6 : Same H2 H6 := same_but s3 (d4.trans (d5.trans ((SameBut.of (same_new hl5)).trans d6))) hw2
    refine ⟨_, rfl, _, _, rfl, rfl, ⟨sp0, by omega, by decide⟩, ?_⟩
    generalize hE : (2 : Int) ^ sp.toNat = E
    have eE : (1 : Int) * 2 ^ sp.toNat = E := by rw [Int.one_mul, hE]
    dsimp only
    rw [eE]
    have E1 : 1 ≤ E := by
      rw [← hE]
      have : (0 : Int) < 2 ^ sp.toNat := Int.pow_pos (by decide)
      omega
    have E2 : E ≤ 2 ^ 20 := by
      rw [← hE]
      have := Nat.pow_le_pow_right (n := 2) (by decide) (show sp.toNat ≤ 20 by omega)
      exact_mod_cast this
    have W6 := (Wb2 E E1 E2).same S6
    have wn := W6.wn
    clear k1 k3 k4 k5 k6 d2 d4 d5 d6 e4 e5 e6
    refine ⟨fun σ G => ∃ (r M : Addr) (bB cB : Int) (rows : List (Int × Int × Bool)), σ = [some (.ref a), some (.ref p1), some (.ref p2), some (.ref w2), some (.int sp), some (.int E), some (.ref r), none, none, none, none, none] ∧ Same H6 G ∧ H6 M = none ∧ M ≠ r ∧ G r = some (.tup [.int bB, .int cB, .ref M]) ∧ RowsAt G M rows ∧ NearIs t1 b1 t2 b2 E bB cB rows, ?_, fun σ G hM => ?_⟩
    · refine ⟨_, rfl, _, rfl, _, rfl, p1, p2, sp, t1, b1, t2, b2, rfl, sp0, sp1, by rw [hE]; exact W6, fun r M bB cB rows G nr nM nMr sG hr2 hR hN => ?_⟩
      rw [hE] at hN
      exact ⟨r, M, bB, cB, rows, rfl, sG, nM, nMr, hr2, hR, hN⟩
    obtain ⟨r, M, bB, cB, rows, rfl, sG, nM, nMr, hr2, hR, hN⟩ := hM
    have W7 := W6.same sG
    refine ⟨_, rfl, _, .ty "tuple", _, _, true, rfl, .ty _, .base (.tup hr2), kit_ty (by decide +kernel), _, rfl, iteF ⟨_, rfl, r, _, rfl, .inr (SqT.of hr2), rfl, _, rfl, iteNS rfl ?_⟩⟩
    refine ⟨_, rfl, _, rfl, r, _, rfl, SqT.of hr2, (by show ¬ (HT.sIx 3 0 none = 0 ∧ HT.sIx 3 3 (some 2) = 3); decide), fun v hv => ?_⟩
    have sv := same_new (o := .tup [.int bB, .int cB]) hv
    refine ⟨v, _, rfl, .inr (SqT.of upd_same), fun l hl => ?_⟩
    have sl := sv.trans (same_new (o := .lst [.int bB, .int cB]) hl)
    refine ⟨_, rfl, r, _, 0, _, rfl, rfl, SqT.of (sl _ _ hr2), a0, _, _, rfl, rfl, _, rfl, r, _, 1, _, rfl, rfl, SqT.of (sl _ _ hr2), a1, _, _, rfl, rfl, (by show 2 ≤ sizeLine; decide), fun l2 hl2 => ?_⟩
    have sl2 := same_new (o := .lst [.int (bB + 0), .int (cB + 0)]) hl2
    refine ⟨_, _, rfl, Al.more _ _ _ (Al.more _ _ _ (Al.ints (ns := [bB, cB]) (by show 2 ≤ 1000; decide) (sl2 _ _ upd_same) (by rw [show [bB, cB] = [bB + 0, cB + 0] by rw [Int.add_zero, Int.add_zero]]; exact upd_same))), fun G2 sG2 => ⟨_, rfl, iteF ?_⟩⟩
    have S7 := sl.trans (sl2.trans sG2)
    have hr3 := S7 _ _ hr2
    have W8 := W7.same S7
    refine ⟨fun σ G3 => ∃ y : Addr, σ = [some (.ref a), some (.ref p1), some (.ref p2), some (.ref w2), some (.int sp), some (.int E), some (.ref r), some (.ref y), none, none, none, none] ∧ Same G2 G3 ∧ G3 y = some (.tup [.int (offI t1 b1 t2 b2 E bB cB), .int bB, .int cB]), ?_, fun σ G3 hM => ?_⟩
    · refine ⟨_, rfl, _, rfl, r, _, rfl, SqT.of hr3, (by show ¬ (HT.sIx 3 0 none = 0 ∧ HT.sIx 3 3 (some 2) = 3); decide), fun v2 hv2 => ?_⟩
      have s2 := same_new (o := .tup [.int bB, .int cB]) hv2
      refine ⟨_, rfl, _, rfl, _, rfl, v2, p1, p2, bB, cB, t1, b1, t2, b2, E, rfl, SqT.of upd_same, W8.same s2, ?_⟩
      refine ⟨_, rfl, r, _, 0, _, rfl, rfl, SqT.of (s2 _ _ hr3), a0, _, rfl, r, _, 1, _, rfl, rfl, SqT.of (s2 _ _ hr3), a1, (by show 3 ≤ sizeLine; decide), fun y hy => ?_⟩
      exact ⟨y, rfl, s2.trans (same_new hy), upd_same⟩
    obtain ⟨y, rfl, s3', hy⟩ := hM
    have hr4 := s3' _ _ hr3
    have W9 := W8.same s3'
    obtain ⟨x1, x2, _, _, _, l1, l2', l3, l4, lE⟩ := id W9
    have q1 := wn.p1
    have q2 := wn.p2
    refine ⟨_, rfl, _, rfl, r, _, rfl, SqT.of hr4, (by show ¬ (HT.sIx 3 0 none = 0 ∧ HT.sIx 3 3 (some 2) = 3); decide), fun v3 hv3 => ?_⟩
    have s5 := same_new (o := .tup [.int bB, .int cB]) hv3
    refine ⟨_, rfl, v3, bB, cB, E, rfl, SqT.of upd_same, fun G4 s6 => ?_⟩
    rw [word_still hN.st]
    have S8 := s5.trans s6
    refine ⟨rfl, _, rfl, iteNS rfl ?_⟩
    refine ⟨_, rfl, y, _, 0, _, rfl, rfl, SqT.of (S8 _ _ hy), a0, _, rfl, p1, _, 1, _, rfl, rfl, SqT.of (S8 _ _ x1), a1, _, _, rfl, rfl, .inl ⟨by decide, by decide⟩, _, rfl, p2, _, 1, _, rfl, rfl, SqT.of (S8 _ _ x2), a1, _, _, rfl, rfl, .inr ⟨by omega, by omega⟩, _, _, rfl, rfl, _, rfl, ite2 (fun c => absurd (toB c) (by have := hN.off; omega)) (fun _ => ?_)⟩
    refine ⟨(by show 0 ≤ sizeLine; decide), fun Du hDu => ?_⟩
    have W10 := W9.same S8
    have hy8 := S8 _ _ hy
    have hr8 := S8 _ _ hr4
    have divb : ∀ (t b : Int), 0 < b → t.natAbs < 2 ^ 40 → (t * E / b).natAbs ≤ 2 ^ 60 := fun t b hb ht => by
      have m1 : (t * E / b).natAbs ≤ (t * E).natAbs := Int.natAbs_ediv_le_natAbs _ _
      have m2 : (t * E).natAbs ≤ 2 ^ 40 * 2 ^ 20 := by
        rw [Int.natAbs_mul]
        exact Nat.mul_le_mul (by omega) (by omega)
      exact Nat.le_trans m1 (Nat.le_trans m2 (by decide))
    have dv1 := divb t1 b1 q1 l1
    have dv2 := divb t2 b2 q2 l3
    clear divb
    refine ⟨fun σ G5 => ∃ y9 y10 : Option V, σ = [some (.ref a), some (.ref p1), some (.ref p2), some (.ref w2), some (.int sp), some (.int E), some (.ref r), some (.ref y), some (.ref Du), y9, y10, none] ∧ Same G4 G5 ∧ RowsAt G5 Du (dueL t1 b1 t2 b2 E (tr t1 b1 t2 b2 E bB cB) 64), ?_, fun σ G5 hM => ?_⟩
    · have x1d := (same_new (o := .lst []) hDu) _ _ (S8 _ _ x1)
      refine ⟨_, rfl, p1, _, 0, _, rfl, rfl, SqT.of x1d, a0, _, rfl, _, _, rfl, rfl, .inr ⟨by omega, by omega⟩, _, rfl, p1, _, 1, _, rfl, rfl, SqT.of x1d, a1, _, _, rfl, rfl, wide_div q1 (up l2' (show 40 ≤ 4000 by decide)) (by decide) (by decide), _, _, rfl, rfl, _, rfl, p1, _, 0, _, rfl, rfl, SqT.of x1d, a0, _, rfl, _, _, rfl, rfl, .inr ⟨by omega, by omega⟩, _, rfl, p1, _, 1, _, rfl, rfl, SqT.of x1d, a1, _, _, rfl, rfl, wide_div q1 (up l2' (show 40 ≤ 4000 by decide)) (by decide) (by decide), _, _, rfl, rfl, _, _, rfl, ⟨by omega, by omega, by omega, by omega⟩, ?_⟩
      have x2d := (same_new (o := .lst []) hDu) _ _ (S8 _ _ x2)
      refine for_range (lo := t1 * E / b1 - 3) (n := ((t1 * E / b1 + 5) - (t1 * E / b1 - 3)).toNat) (fun i σ G5 => ∃ y9 y10 : Option V, σ = [some (.ref a), some (.ref p1), some (.ref p2), some (.ref w2), some (.int sp), some (.int E), some (.ref r), some (.ref y), some (.ref Du), y9, y10, none] ∧ Same G4 G5 ∧ RowsAt G5 Du (dueL t1 b1 t2 b2 E (tr t1 b1 t2 b2 E bB cB) (8 * i))) ⟨_, _, rfl, same_new hDu, [], upd_same, (fun p hp => absurd hp List.not_mem_nil), rfl⟩ (fun i σ G5 hi hP => ?_) (fun σ G5 hP => ?_)
      · obtain ⟨y9, y10, rfl, sG5, hR5⟩ := hP
        have hi8 : i < 8 := by omega
        have x2e := sG5 _ _ (S8 _ _ x2)
        refine ⟨_, rfl, p2, _, 0, _, rfl, rfl, SqT.of x2e, a0, _, rfl, _, _, rfl, rfl, .inr ⟨by omega, by omega⟩, _, rfl, p2, _, 1, _, rfl, rfl, SqT.of x2e, a1, _, _, rfl, rfl, wide_div q2 (up l4 (show 40 ≤ 4000 by decide)) (by decide) (by decide), _, _, rfl, rfl, _, rfl, p2, _, 0, _, rfl, rfl, SqT.of x2e, a0, _, rfl, _, _, rfl, rfl, .inr ⟨by omega, by omega⟩, _, rfl, p2, _, 1, _, rfl, rfl, SqT.of x2e, a1, _, _, rfl, rfl, wide_div q2 (up l4 (show 40 ≤ 4000 by decide)) (by decide) (by decide), _, _, rfl, rfl, _, _, rfl, ⟨by omega, by omega, by omega, by omega⟩, ?_⟩
        refine for_range (lo := t2 * E / b2 - 3) (n := ((t2 * E / b2 + 5) - (t2 * E / b2 - 3)).toNat) (fun j σ G6 => ∃ y10 : Option V, σ = [some (.ref a), some (.ref p1), some (.ref p2), some (.ref w2), some (.int sp), some (.int E), some (.ref r), some (.ref y), some (.ref Du), some (.int (t1 * E / b1 - 3 + (i : Nat))), y10, none] ∧ Same G4 G6 ∧ RowsAt G6 Du (dueL t1 b1 t2 b2 E (tr t1 b1 t2 b2 E bB cB) (8 * i + j))) ⟨_, rfl, sG5, hR5⟩ (fun j σ G6 hj hP => ?_) (fun σ G6 hP => ?_)
        · obtain ⟨y10, rfl, sG6, hR6⟩ := hP
          have hj8 : j < 8 := by omega
          have eb : pb t1 b1 E (8 * i + j) = t1 * E / b1 - 3 + (i : Nat) := by
            unfold pb
            rw [show (8 * i + j) / 8 = i by omega]
          have ec : pc t2 b2 E (8 * i + j) = t2 * E / b2 - 3 + (j : Nat) := by
            unfold pc
            rw [show (8 * i + j) % 8 = j by omega]
          generalize t1 * E / b1 - 3 + ((i : Nat) : Int) = b0 at eb ⊢
          generalize t2 * E / b2 - 3 + ((j : Nat) : Int) = c0 at ec ⊢
          have er : rowk t1 b1 t2 b2 E (8 * i + j) = (b0, c0, decide (¬ absI c0 < E)) := by
            unfold rowk
            rw [eb, ec]
          have ea : aheadk t1 b1 t2 b2 E (tr t1 b1 t2 b2 E bB cB) (8 * i + j) = lt3 (tr t1 b1 t2 b2 E b0 c0) (tr t1 b1 t2 b2 E bB cB) := by
            unfold aheadk
            rw [eb, ec]
          refine ⟨_, rfl, _, rfl, (by show 2 ≤ sizeLine; decide), fun tp htp => ?_⟩
          have sp1' := same_new (o := .tup [.int b0, .int c0]) htp
          have Wp := W10.same (sG6.trans sp1')
          refine ⟨_, rfl, _, rfl, _, rfl, tp, p1, p2, b0, c0, t1, b1, t2, b2, E, rfl, SqT.of upd_same, Wp, ?_⟩
          refine ⟨_, rfl, _, rfl, (by show 3 ≤ sizeLine; decide), fun tq htq => ?_⟩
          have sq := sp1'.trans (same_new (o := .tup [.int (offI t1 b1 t2 b2 E b0 c0), .int b0, .int c0]) htq)
          have hyq := sq _ _ (sG6 _ _ hy8)
          refine ⟨_, rfl, tq, y, [offI t1 b1 t2 b2 E b0 c0, b0, c0], [offI t1 b1 t2 b2 E bB cB, bB, cB], rfl, rfl, SqT.of upd_same, SqT.of hyq, _, rfl, ?_⟩
          have lx := lt3_lex (tr t1 b1 t2 b2 E b0 c0) (tr t1 b1 t2 b2 E bB cB)
          generalize upd (upd G6 tp (.tup [.int b0, .int c0])) tq (.tup [.int (offI t1 b1 t2 b2 E b0 c0), .int b0, .int c0]) = G7 at sq hyq ⊢
          cases hl : lt3 (tr t1 b1 t2 b2 E b0 c0) (tr t1 b1 t2 b2 E bB cB) with
          | false =>
            refine iteC (lx.trans hl) (iteF ⟨_, rfl, sG6.trans sq, ?_⟩)
            rw [show 8 * i + (j + 1) = 8 * i + j + 1 by omega, due_no (ea.trans hl)]
            exact hR6.same sq
          | true =>
            obtain ⟨ps, hps, hw, em⟩ := hR6.same sq
            have lps := congrArg List.length em
            have dl := due_len t1 b1 t2 b2 E (tr t1 b1 t2 b2 E bB cB) (8 * i + j)
            rw [List.length_map] at lps
            refine iteC (lx.trans hl) (iteT ?_)
            refine ⟨_, rfl, .inl ⟨rfl, _, SqL.of hps⟩, _, rfl, _, rfl, _, rfl, _, rfl, (by show 2 ≤ sizeLine; decide), fun tz htz => ?_⟩
            have sz := same_new (o := .tup [.int b0, .int c0]) htz
            refine ⟨_, rfl, tz, b0, c0, E, rfl, SqT.of upd_same, fun G8 s8 => ⟨(by show 3 ≤ sizeLine; decide), fun tv htv => ?_⟩⟩
            rw [word_not (hN.no _ _ hl)]
            have sv' := same_new (o := .tup [.int b0, .int c0, .str (wS (decide (¬ absI c0 < E)))]) htv
            have S9 := sz.trans (s8.trans sv')
            have hps9 := S9 _ _ hps
            refine ⟨Du, _, _, rfl, rfl, hps9, small1000 (by rw [List.length_map]; omega), ?_⟩
            have nvD : tv ≠ Du := fun e => by
              have := (sz.trans s8) _ _ hps
              rw [← e, htv] at this
              cases this
            refine ⟨_, rfl, fun x o e => ?_, ps ++ [(.ref tv, b0, c0, decide (¬ absI c0 < E))], ?_, fun p hp => ?_, ?_⟩
            · rw [upd_ne (ne_of_none e hDu)]
              exact S9 _ _ ((sG6.trans sq) _ _ e)
            · rw [upd_same, List.map_append]
              rfl
            · rcases List.mem_append.mp hp with hp | hp
              · exact ((hw p hp).same S9).upd hps9
              · rw [List.mem_singleton.mp hp]
                refine ⟨tv, rfl, ?_⟩
                rw [upd_ne nvD]
                exact upd_same
            · rw [show 8 * i + (j + 1) = 8 * i + j + 1 by omega, due_yes (ea.trans hl), List.map_append, em, er]
              rfl
        · obtain ⟨y10, rfl, sG6, hR6⟩ := hP
          refine ⟨_, _, rfl, sG6, ?_⟩
          rw [show 8 * (i + 1) = 8 * i + ((t2 * E / b2 + 5) - (t2 * E / b2 - 3)).toNat by omega]
          exact hR6
      · obtain ⟨y9, y10, rfl, sG5, hR5⟩ := hP
        refine ⟨_, _, rfl, sG5, ?_⟩
        rw [show (64 : Nat) = 8 * ((t1 * E / b1 + 5) - (t1 * E / b1 - 3)).toNat by omega]
        exact hR5
    obtain ⟨y9, y10, rfl, sG5, hR5⟩ := hM
    have hr9 := sG5 _ _ hr8
    have hR9 : RowsAt G5 M rows := hR.same (S7.trans (s3'.trans (S8.trans sG5)))
    have W11 := W10.same sG5
    have nDM : Du ≠ M := fun e => by
      obtain ⟨ps0, hM0, _⟩ := hR.same (S7.trans (s3'.trans S8))
      rw [e, hM0] at hDu
      cases hDu
    obtain ⟨ps, hps, hw, em⟩ := id hR5
    have lps := congrArg List.length em
    rw [List.length_map] at lps
    have dl := due_len t1 b1 t2 b2 E (tr t1 b1 t2 b2 E bB cB) 64
    refine ⟨_, rfl, Du, rfl, ⟨_, SqL.of hps⟩, fun D hD => lc_list (K := K) (a := Du) (xs := ps.map (·.1)) (fun i G => Same G5 G ∧ G D = some (.lst (((ps.take i).map (·.2.2.2)).map fun t => V.str (wS t)))) ⟨same_new hD, upd_same⟩ (fun i G _ hP => SqL.of (hP.1 _ _ hps)) (fun i x G hx hP => ?_) (fun G hP => ?_)⟩
    · obtain ⟨sGx, hacc⟩ := hP
      rw [List.getElem?_map] at hx
      obtain ⟨p, hp, rfl⟩ := Option.map_eq_some_iff.mp hx
      obtain ⟨tq, ep, ht⟩ := hw p (List.mem_of_getElem? hp)
      have li := (List.getElem?_eq_some_iff.mp hp).1
      refine ⟨rfl, _, rfl, tq, _, 2, _, ep, rfl, SqT.of (sGx _ _ ht), a2, _, hacc, ?_, fun b o e => ?_, ?_⟩
      · rw [List.length_map, List.length_map, List.length_take]
        exact small1000 (by omega)
      · rw [upd_ne (ne_of_none e hD)]
        exact sGx _ _ e
      · rw [upd_same, List.take_succ, hp, Option.toList_some, List.map_append, List.map_append]
        rfl
    obtain ⟨sGx, hacc⟩ := hP
    refine ⟨D, _, rfl, .inl (SqL.of hacc), rfl, ?_, _, rfl, iteC (no_empty _) (iteF ?_)⟩
    · rw [List.all_map, List.all_eq_true]
      intro x _
      rfl
    have hps' := sGx _ _ hps
    refine ⟨_, rfl, r, _, 2, _, rfl, rfl, SqT.of (sGx _ _ hr9), a2, _, rfl, Du, ps, rfl, SqL.of hps', fun p hp => ((hw p hp).same sGx).dp, fun ws L hpm hpw hL => ?_⟩
    have sL := same_new (o := .lst (ws.map (·.1))) hL
    have eW : ∀ ws : List (V × Int × Int × Bool), ws.Perm ps → ws.Pairwise (fun p q => leW p.2 q.2 = true) → ws.map (·.2) = rows := fun ws hpm hpw => by
      have pm2 := hpm.map (·.2)
      rw [em] at pm2
      exact due_near wn hN pm2 (List.pairwise_map.mpr hpw)
    have rl : rows.length ≤ 1000 := Nat.le_trans hN.len (by decide)
    have SgL := sGx.trans sL
    refine ⟨_, _, rfl, Al.more _ _ _ (RowsAt.al 0 rl (hR9.same SgL) ⟨ws, upd_same, fun p hp => ((hw p (hpm.mem_iff.mp hp)).same SgL), eW ws hpm hpw⟩), fun G6 s6' => ⟨_, rfl, iteF ?_⟩⟩
    have S10 := SgL.trans s6'
    obtain ⟨psM, hM1, hwM, emM⟩ := hR9.same S10
    have lM := congrArg List.length emM
    rw [List.length_map] at lM
    have hr10 := S10 _ _ hr9
    refine ⟨_, rfl, r, _, 2, _, rfl, rfl, SqT.of hr10, a2, .inl ⟨rfl, _, SqL.of hM1⟩, M, _, _, rfl, rfl, hM1, small1000 (by rw [List.length_map]; have := hN.len; omega), ?_⟩
    have W12 := W11.same S10
    have W13 : Wd (upd G6 M (.lst (psM.map (·.1) ++ [.int 0]))) p1 p2 t1 b1 t2 b2 E := by
      obtain ⟨z1, z2, z3, z4, z5, z6, z7, z8, z9, z10⟩ := W12
      exact ⟨by rw [upd_ne (ne_of z1 hM1 (fun z => nomatch z))]; exact z1, by rw [upd_ne (ne_of z2 hM1 (fun z => nomatch z))]; exact z2, z3, z4, z5, z6, z7, z8, z9, z10⟩
    have hr11 : (upd G6 M (.lst (psM.map (·.1) ++ [.int 0]))) r = some (.tup [.int bB, .int cB, .ref M]) := by
      rw [upd_ne nMr.symm]
      exact hr10
    have hD11 : (upd G6 M (.lst (psM.map (·.1) ++ [.int 0]))) Du = some (.lst (ps.map (·.1))) := by
      rw [upd_ne nDM]
      exact S10 _ _ hps
    have hw11 : ∀ p ∈ ps, AtW (upd G6 M (.lst (psM.map (·.1) ++ [.int 0]))) p := fun p hp => ((hw p hp).same S10).upd hM1
    generalize upd G6 M (.lst (psM.map (·.1) ++ [.int 0])) = G11 at W13 hr11 hD11 hw11 ⊢
    refine ⟨_, rfl, _, rfl, _, rfl, rfl, rfl, p1, p2, sp, t1, b1, t2, b2, rfl, sp0, sp1, by rw [hE]; exact W13, fun r2 M2 bB2 cB2 rows2 G12 nr2 nM2 nMr2 s12 hr12 hR12 hN12 => ?_⟩
    rw [hE] at hN12
    obtain ⟨rfl, rfl, rfl⟩ := near_one hN hN12
    have hr13 := s12 _ _ hr11
    have hD12 := s12 _ _ hD11
    refine ⟨_, rfl, r, _, 0, _, rfl, rfl, SqT.of hr13, a0, _, rfl, r, _, 1, _, rfl, rfl, SqT.of hr13, a1, _, rfl, Du, ps, rfl, SqL.of hD12, fun p hp => ((hw11 p hp).same s12).dp, fun ws2 L2 hpm2 hpw2 hL2 => ?_⟩
    have sL2 := same_new (o := .lst (ws2.map (·.1))) hL2
    refine ⟨(by show 3 ≤ sizeLine; decide), fun u2 hu2 => ?_⟩
    have su2 := same_new (o := .tup [.int bB2, .int cB2, .ref L2]) hu2
    have S13 := sL2.trans su2
    exact ⟨_, _, rfl, al3 0 (S13 _ _ hr12) upd_same (RowsAt.al 0 rl (hR12.same S13) ⟨ws2, su2 _ _ upd_same, fun p hp => (((hw11 p (hpm2.mem_iff.mp hp)).same s12).same S13), eW ws2 hpm2 hpw2⟩), fun G14 _ => q _⟩
end
end E1

namespace E1
open PySem PySem.Spec PyProof.Rows L2

theorem Vals.rev : ∀ {xs : List V} {us : List Value}, Vals xs us → Vals xs.reverse us.reverse
  | _, _, .nil => .nil
  | _, _, .cons r t => by
    rw [List.reverse_cons, List.reverse_cons]
    exact Vals.append (Vals.rev t) (.cons r .nil)
section
variable {P : Program} {w : World} {K : PySem.W.Frag} {mg : Str → Option Value} {base : Heap} {x : Str} {st : Stmt} {f : Addr} {fd : FuncData} {ps ks : List Str} {k n : Nat} {sp : Sp}
/-- a def without defaults: its arguments by keywords alone or behind others -/
theorem Fun.kbn {qual : Str} (F : Fun K x qual st f fd) {g : List Value → List Value → List Value} {gV : List V → List V → List V} (hrel : ∀ {vs : List V} {us : List Value} {zs : List V} {ws : List Value}, Vals vs us → Vals zs ws → Vals (gV vs zs) (g us ws))
    (h : ∀ (kV doc pm : Value) (an : Option Addr) (cdv ct : Value) (us ws : List Value), us.length = n → ws.length = ks.length → bindArgs (PySem.W.fnOf x qual (defArgs st) (defBody st) (defScope st) .none kV doc pm an cdv ct) ⟨us, ks.zip ws⟩ = pure (ps.zip (g us ws))) : KBn K fd ps n ks g gV := by
  rcases F.ex with ⟨_, _, v1, v2, v3, v4, v5, v6, _, same, _, _⟩
  subst same
  exact ⟨fun s us ws _ l1 l2 => .of_eq (h v1 v2 v3 v4 v5 v6 us ws l1 l2), hrel⟩
/-- a def with defaults, all arguments given -/
theorem FunD.kbn {qual : Str} {params : Arguments} {body : List Stmt} {scope : Scope} {dvs : List V} {kws : List (Str × V)} (F : FunD K x qual params body scope dvs kws f fd) (hd : dvs ≠ []) {g : List Value → List Value → List Value} {gV : List V → List V → List V} (hrel : ∀ {vs : List V} {us : List Value} {zs : List V} {ws : List Value}, Vals vs us → Vals zs ws → Vals (gV vs zs) (g us ws))
    (h : ∀ (T : Addr) (kV doc pm : Value) (an : Option Addr) (cdv ct : Value) (us ws its : List Value), us.length = n → ws.length = ks.length → its.length = dvs.length → ∃ k, bindArgs (PySem.W.fnOf x qual params body scope (.ref T) kV doc pm an cdv ct) ⟨us, ks.zip ws⟩ = seqItems? (.ref T) >>= k ∧ k (some its.toArray) = pure (ps.zip (g us ws))) : KBn K fd ps n ks g gV := by
  rcases F.ex with ⟨_, _, _, v1, v2, v3, v4, v5, v6, _, same, _, _, bare | given, _⟩
  · exact absurd bare.1 hd
  · rcases given with ⟨_, T, _, its, _, dv, at_, it, rel⟩
    subst same dv
    refine ⟨fun s us ws inn l1 l2 => BindsTo.of_looks fun M => ?_, hrel⟩
    rcases h T v1 v2 v3 v4 v5 v6 us ws its l1 l2 rel.length.symm with ⟨go, b1, b2⟩
    rw [b1]
    exact looks_items inn at_ it (.of_pure b2)
end
theorem all_mk {l : PySem.W.OpenLaw} {w : World} {K : PySem.W.Frag} {h : Heap} {mg : Str → Option Value} {fa f_is_whole f_is_fraction f_shared_divisor f_lowest f_plus f_size_of f_under f_is_place f_is_wanted f_is_still_pair f_numbers_near f_far_off f_nearest_still f__law_cell_at f__law_well f__law_draw f__law_low f__law_same f__law_wanted f__law_off f__law_word f_law A_ONE : Addr} (X : K.In h) (G : h.Ns mainGlobals mg) (hfa : mg "law" = some (.ref fa))
    {od_is_whole an_is_whole : Option Addr} {sl_is_whole : Array (Option Value)} {oc_is_whole kV_is_whole dc_is_whole pm_is_whole cd_is_whole ct_is_whole : Value}
    (a_is_whole : PySem.W.nsIn K mainGlobals "is_whole" = some (some (.ref f_is_whole)))
    (l_is_whole : K.lookup f_is_whole = some ⟨oc_is_whole, od_is_whole, .func (PySem.W.fnOf "is_whole" "is_whole" (defArgs s_is_whole) (defBody s_is_whole) (defScope s_is_whole) .none kV_is_whole dc_is_whole pm_is_whole an_is_whole cd_is_whole ct_is_whole), sl_is_whole⟩)
    (c_is_whole : PySem.W.codeIn K cd_is_whole "is_whole" = true)
    (k_is_whole : PySem.W.keepIn K (.ref f_is_whole) = true)
    {od_is_fraction an_is_fraction : Option Addr} {sl_is_fraction : Array (Option Value)} {oc_is_fraction kV_is_fraction dc_is_fraction pm_is_fraction cd_is_fraction ct_is_fraction : Value}
    (a_is_fraction : PySem.W.nsIn K mainGlobals "is_fraction" = some (some (.ref f_is_fraction)))
    (l_is_fraction : K.lookup f_is_fraction = some ⟨oc_is_fraction, od_is_fraction, .func (PySem.W.fnOf "is_fraction" "is_fraction" (defArgs s_is_fraction) (defBody s_is_fraction) (defScope s_is_fraction) .none kV_is_fraction dc_is_fraction pm_is_fraction an_is_fraction cd_is_fraction ct_is_fraction), sl_is_fraction⟩)
    (c_is_fraction : PySem.W.codeIn K cd_is_fraction "is_fraction" = true)
    (k_is_fraction : PySem.W.keepIn K (.ref f_is_fraction) = true)
    {od_shared_divisor an_shared_divisor : Option Addr} {sl_shared_divisor : Array (Option Value)} {oc_shared_divisor kV_shared_divisor dc_shared_divisor pm_shared_divisor cd_shared_divisor ct_shared_divisor : Value}
    (a_shared_divisor : PySem.W.nsIn K mainGlobals "shared_divisor" = some (some (.ref f_shared_divisor)))
    (l_shared_divisor : K.lookup f_shared_divisor = some ⟨oc_shared_divisor, od_shared_divisor, .func (PySem.W.fnOf "shared_divisor" "shared_divisor" (defArgs s_shared_divisor) (defBody s_shared_divisor) (defScope s_shared_divisor) .none kV_shared_divisor dc_shared_divisor pm_shared_divisor an_shared_divisor cd_shared_divisor ct_shared_divisor), sl_shared_divisor⟩)
    (c_shared_divisor : PySem.W.codeIn K cd_shared_divisor "shared_divisor" = true)
    (k_shared_divisor : PySem.W.keepIn K (.ref f_shared_divisor) = true)
    {od_lowest an_lowest : Option Addr} {sl_lowest : Array (Option Value)} {oc_lowest kV_lowest dc_lowest pm_lowest cd_lowest ct_lowest : Value}
    (a_lowest : PySem.W.nsIn K mainGlobals "lowest" = some (some (.ref f_lowest)))
    (l_lowest : K.lookup f_lowest = some ⟨oc_lowest, od_lowest, .func (PySem.W.fnOf "lowest" "lowest" (defArgs s_lowest) (defBody s_lowest) (defScope s_lowest) .none kV_lowest dc_lowest pm_lowest an_lowest cd_lowest ct_lowest), sl_lowest⟩)
    (c_lowest : PySem.W.codeIn K cd_lowest "lowest" = true)
    (k_lowest : PySem.W.keepIn K (.ref f_lowest) = true)
    {od_plus an_plus : Option Addr} {sl_plus : Array (Option Value)} {oc_plus kV_plus dc_plus pm_plus cd_plus ct_plus : Value}
    (a_plus : PySem.W.nsIn K mainGlobals "plus" = some (some (.ref f_plus)))
    (l_plus : K.lookup f_plus = some ⟨oc_plus, od_plus, .func (PySem.W.fnOf "plus" "plus" (defArgs s_plus) (defBody s_plus) (defScope s_plus) .none kV_plus dc_plus pm_plus an_plus cd_plus ct_plus), sl_plus⟩)
    (c_plus : PySem.W.codeIn K cd_plus "plus" = true)
    (k_plus : PySem.W.keepIn K (.ref f_plus) = true)
    {od_size_of an_size_of : Option Addr} {sl_size_of : Array (Option Value)} {oc_size_of kV_size_of dc_size_of pm_size_of cd_size_of ct_size_of : Value}
    (a_size_of : PySem.W.nsIn K mainGlobals "size_of" = some (some (.ref f_size_of)))
    (l_size_of : K.lookup f_size_of = some ⟨oc_size_of, od_size_of, .func (PySem.W.fnOf "size_of" "size_of" (defArgs s_size_of) (defBody s_size_of) (defScope s_size_of) .none kV_size_of dc_size_of pm_size_of an_size_of cd_size_of ct_size_of), sl_size_of⟩)
    (c_size_of : PySem.W.codeIn K cd_size_of "size_of" = true)
    (k_size_of : PySem.W.keepIn K (.ref f_size_of) = true)
    {od_under an_under : Option Addr} {sl_under : Array (Option Value)} {oc_under kV_under dc_under pm_under cd_under ct_under : Value}
    (a_under : PySem.W.nsIn K mainGlobals "under" = some (some (.ref f_under)))
    (l_under : K.lookup f_under = some ⟨oc_under, od_under, .func (PySem.W.fnOf "under" "under" (defArgs s_under) (defBody s_under) (defScope s_under) .none kV_under dc_under pm_under an_under cd_under ct_under), sl_under⟩)
    (c_under : PySem.W.codeIn K cd_under "under" = true)
    (k_under : PySem.W.keepIn K (.ref f_under) = true)
    {od_is_place an_is_place : Option Addr} {sl_is_place : Array (Option Value)} {oc_is_place kV_is_place dc_is_place pm_is_place cd_is_place ct_is_place : Value}
    (a_is_place : PySem.W.nsIn K mainGlobals "is_place" = some (some (.ref f_is_place)))
    (l_is_place : K.lookup f_is_place = some ⟨oc_is_place, od_is_place, .func (PySem.W.fnOf "is_place" "is_place" (defArgs s_is_place) (defBody s_is_place) (defScope s_is_place) .none kV_is_place dc_is_place pm_is_place an_is_place cd_is_place ct_is_place), sl_is_place⟩)
    (c_is_place : PySem.W.codeIn K cd_is_place "is_place" = true)
    (k_is_place : PySem.W.keepIn K (.ref f_is_place) = true)
    {od_is_wanted an_is_wanted : Option Addr} {sl_is_wanted : Array (Option Value)} {oc_is_wanted kV_is_wanted dc_is_wanted pm_is_wanted cd_is_wanted ct_is_wanted : Value}
    (a_is_wanted : PySem.W.nsIn K mainGlobals "is_wanted" = some (some (.ref f_is_wanted)))
    (l_is_wanted : K.lookup f_is_wanted = some ⟨oc_is_wanted, od_is_wanted, .func (PySem.W.fnOf "is_wanted" "is_wanted" (defArgs s_is_wanted) (defBody s_is_wanted) (defScope s_is_wanted) .none kV_is_wanted dc_is_wanted pm_is_wanted an_is_wanted cd_is_wanted ct_is_wanted), sl_is_wanted⟩)
    (c_is_wanted : PySem.W.codeIn K cd_is_wanted "is_wanted" = true)
    (k_is_wanted : PySem.W.keepIn K (.ref f_is_wanted) = true)
    {od_is_still_pair an_is_still_pair : Option Addr} {sl_is_still_pair : Array (Option Value)} {oc_is_still_pair kV_is_still_pair dc_is_still_pair pm_is_still_pair cd_is_still_pair ct_is_still_pair : Value}
    (a_is_still_pair : PySem.W.nsIn K mainGlobals "is_still_pair" = some (some (.ref f_is_still_pair)))
    (l_is_still_pair : K.lookup f_is_still_pair = some ⟨oc_is_still_pair, od_is_still_pair, .func (PySem.W.fnOf "is_still_pair" "is_still_pair" (defArgs s_is_still_pair) (defBody s_is_still_pair) (defScope s_is_still_pair) .none kV_is_still_pair dc_is_still_pair pm_is_still_pair an_is_still_pair cd_is_still_pair ct_is_still_pair), sl_is_still_pair⟩)
    (c_is_still_pair : PySem.W.codeIn K cd_is_still_pair "is_still_pair" = true)
    (k_is_still_pair : PySem.W.keepIn K (.ref f_is_still_pair) = true)
    {od_numbers_near an_numbers_near : Option Addr} {sl_numbers_near : Array (Option Value)} {oc_numbers_near kV_numbers_near dc_numbers_near pm_numbers_near cd_numbers_near ct_numbers_near : Value}
    (a_numbers_near : PySem.W.nsIn K mainGlobals "numbers_near" = some (some (.ref f_numbers_near)))
    (l_numbers_near : K.lookup f_numbers_near = some ⟨oc_numbers_near, od_numbers_near, .func (PySem.W.fnOf "numbers_near" "numbers_near" (defArgs s_numbers_near) (defBody s_numbers_near) (defScope s_numbers_near) .none kV_numbers_near dc_numbers_near pm_numbers_near an_numbers_near cd_numbers_near ct_numbers_near), sl_numbers_near⟩)
    (c_numbers_near : PySem.W.codeIn K cd_numbers_near "numbers_near" = true)
    (k_numbers_near : PySem.W.keepIn K (.ref f_numbers_near) = true)
    {od_far_off an_far_off : Option Addr} {sl_far_off : Array (Option Value)} {oc_far_off kV_far_off dc_far_off pm_far_off cd_far_off ct_far_off : Value}
    (a_far_off : PySem.W.nsIn K mainGlobals "far_off" = some (some (.ref f_far_off)))
    (l_far_off : K.lookup f_far_off = some ⟨oc_far_off, od_far_off, .func (PySem.W.fnOf "far_off" "far_off" (defArgs s_far_off) (defBody s_far_off) (defScope s_far_off) .none kV_far_off dc_far_off pm_far_off an_far_off cd_far_off ct_far_off), sl_far_off⟩)
    (c_far_off : PySem.W.codeIn K cd_far_off "far_off" = true)
    (k_far_off : PySem.W.keepIn K (.ref f_far_off) = true)
    {od_nearest_still an_nearest_still : Option Addr} {sl_nearest_still : Array (Option Value)} {oc_nearest_still kV_nearest_still dc_nearest_still pm_nearest_still cd_nearest_still ct_nearest_still : Value}
    (a_nearest_still : PySem.W.nsIn K mainGlobals "nearest_still" = some (some (.ref f_nearest_still)))
    (l_nearest_still : K.lookup f_nearest_still = some ⟨oc_nearest_still, od_nearest_still, .func (PySem.W.fnOf "nearest_still" "nearest_still" (defArgs s_nearest_still) (defBody s_nearest_still) (defScope s_nearest_still) .none kV_nearest_still dc_nearest_still pm_nearest_still an_nearest_still cd_nearest_still ct_nearest_still), sl_nearest_still⟩)
    (c_nearest_still : PySem.W.codeIn K cd_nearest_still "nearest_still" = true)
    (k_nearest_still : PySem.W.keepIn K (.ref f_nearest_still) = true)
    {od__law_cell_at an__law_cell_at : Option Addr} {sl__law_cell_at : Array (Option Value)} {oc__law_cell_at kV__law_cell_at dc__law_cell_at pm__law_cell_at cd__law_cell_at ct__law_cell_at : Value}
    (a__law_cell_at : PySem.W.nsIn K mainGlobals "_law_cell_at" = some (some (.ref f__law_cell_at)))
    (l__law_cell_at : K.lookup f__law_cell_at = some ⟨oc__law_cell_at, od__law_cell_at, .func (PySem.W.fnOf "_law_cell_at" "_law_cell_at" (defArgs s__law_cell_at) (defBody s__law_cell_at) (defScope s__law_cell_at) .none kV__law_cell_at dc__law_cell_at pm__law_cell_at an__law_cell_at cd__law_cell_at ct__law_cell_at), sl__law_cell_at⟩)
    (c__law_cell_at : PySem.W.codeIn K cd__law_cell_at "_law_cell_at" = true)
    (k__law_cell_at : PySem.W.keepIn K (.ref f__law_cell_at) = true)
    {od__law_well an__law_well : Option Addr} {sl__law_well : Array (Option Value)} {oc__law_well kV__law_well dc__law_well pm__law_well cd__law_well ct__law_well : Value}
    (a__law_well : PySem.W.nsIn K mainGlobals "_law_well" = some (some (.ref f__law_well)))
    (l__law_well : K.lookup f__law_well = some ⟨oc__law_well, od__law_well, .func (PySem.W.fnOf "_law_well" "_law_well" (defArgs s__law_well) (defBody s__law_well) (defScope s__law_well) .none kV__law_well dc__law_well pm__law_well an__law_well cd__law_well ct__law_well), sl__law_well⟩)
    (c__law_well : PySem.W.codeIn K cd__law_well "_law_well" = true)
    (k__law_well : PySem.W.keepIn K (.ref f__law_well) = true)
    {od__law_draw an__law_draw : Option Addr} {sl__law_draw : Array (Option Value)} {oc__law_draw kV__law_draw dc__law_draw pm__law_draw cd__law_draw ct__law_draw : Value}
    (a__law_draw : PySem.W.nsIn K mainGlobals "_law_draw" = some (some (.ref f__law_draw)))
    (l__law_draw : K.lookup f__law_draw = some ⟨oc__law_draw, od__law_draw, .func (PySem.W.fnOf "_law_draw" "_law_draw" (defArgs s__law_draw) (defBody s__law_draw) (defScope s__law_draw) .none kV__law_draw dc__law_draw pm__law_draw an__law_draw cd__law_draw ct__law_draw), sl__law_draw⟩)
    (c__law_draw : PySem.W.codeIn K cd__law_draw "_law_draw" = true)
    (k__law_draw : PySem.W.keepIn K (.ref f__law_draw) = true)
    {od__law_low an__law_low : Option Addr} {sl__law_low : Array (Option Value)} {oc__law_low kV__law_low dc__law_low pm__law_low cd__law_low ct__law_low : Value}
    (a__law_low : PySem.W.nsIn K mainGlobals "_law_low" = some (some (.ref f__law_low)))
    (l__law_low : K.lookup f__law_low = some ⟨oc__law_low, od__law_low, .func (PySem.W.fnOf "_law_low" "_law_low" (defArgs s__law_low) (defBody s__law_low) (defScope s__law_low) .none kV__law_low dc__law_low pm__law_low an__law_low cd__law_low ct__law_low), sl__law_low⟩)
    (c__law_low : PySem.W.codeIn K cd__law_low "_law_low" = true)
    (k__law_low : PySem.W.keepIn K (.ref f__law_low) = true)
    {od__law_same an__law_same : Option Addr} {sl__law_same : Array (Option Value)} {oc__law_same kV__law_same dc__law_same pm__law_same cd__law_same ct__law_same : Value}
    (a__law_same : PySem.W.nsIn K mainGlobals "_law_same" = some (some (.ref f__law_same)))
    (l__law_same : K.lookup f__law_same = some ⟨oc__law_same, od__law_same, .func (PySem.W.fnOf "_law_same" "_law_same" (defArgs s__law_same) (defBody s__law_same) (defScope s__law_same) .none kV__law_same dc__law_same pm__law_same an__law_same cd__law_same ct__law_same), sl__law_same⟩)
    (c__law_same : PySem.W.codeIn K cd__law_same "_law_same" = true)
    (k__law_same : PySem.W.keepIn K (.ref f__law_same) = true)
    {od__law_wanted an__law_wanted : Option Addr} {sl__law_wanted : Array (Option Value)} {oc__law_wanted kV__law_wanted dc__law_wanted pm__law_wanted cd__law_wanted ct__law_wanted : Value}
    (a__law_wanted : PySem.W.nsIn K mainGlobals "_law_wanted" = some (some (.ref f__law_wanted)))
    (l__law_wanted : K.lookup f__law_wanted = some ⟨oc__law_wanted, od__law_wanted, .func (PySem.W.fnOf "_law_wanted" "_law_wanted" (defArgs s__law_wanted) (defBody s__law_wanted) (defScope s__law_wanted) .none kV__law_wanted dc__law_wanted pm__law_wanted an__law_wanted cd__law_wanted ct__law_wanted), sl__law_wanted⟩)
    (c__law_wanted : PySem.W.codeIn K cd__law_wanted "_law_wanted" = true)
    (k__law_wanted : PySem.W.keepIn K (.ref f__law_wanted) = true)
    {od__law_off an__law_off : Option Addr} {sl__law_off : Array (Option Value)} {oc__law_off kV__law_off dc__law_off pm__law_off cd__law_off ct__law_off : Value}
    (a__law_off : PySem.W.nsIn K mainGlobals "_law_off" = some (some (.ref f__law_off)))
    (l__law_off : K.lookup f__law_off = some ⟨oc__law_off, od__law_off, .func (PySem.W.fnOf "_law_off" "_law_off" (defArgs s__law_off) (defBody s__law_off) (defScope s__law_off) .none kV__law_off dc__law_off pm__law_off an__law_off cd__law_off ct__law_off), sl__law_off⟩)
    (c__law_off : PySem.W.codeIn K cd__law_off "_law_off" = true)
    (k__law_off : PySem.W.keepIn K (.ref f__law_off) = true)
    {od__law_word an__law_word : Option Addr} {sl__law_word : Array (Option Value)} {oc__law_word kV__law_word dc__law_word pm__law_word cd__law_word ct__law_word : Value}
    (a__law_word : PySem.W.nsIn K mainGlobals "_law_word" = some (some (.ref f__law_word)))
    (l__law_word : K.lookup f__law_word = some ⟨oc__law_word, od__law_word, .func (PySem.W.fnOf "_law_word" "_law_word" (defArgs s__law_word) (defBody s__law_word) (defScope s__law_word) .none kV__law_word dc__law_word pm__law_word an__law_word cd__law_word ct__law_word), sl__law_word⟩)
    (c__law_word : PySem.W.codeIn K cd__law_word "_law_word" = true)
    (k__law_word : PySem.W.keepIn K (.ref f__law_word) = true)
    {od_law an_law : Option Addr} {sl_law : Array (Option Value)} {oc_law kV_law dc_law pm_law cd_law ct_law : Value}
    (a_law : PySem.W.nsIn K mainGlobals "law" = some (some (.ref f_law)))
    (l_law : K.lookup f_law = some ⟨oc_law, od_law, .func (PySem.W.fnOf "law" "law" (defArgs s_law) (defBody s_law) (defScope s_law) .none kV_law dc_law pm_law an_law cd_law ct_law), sl_law⟩)
    (c_law : PySem.W.codeIn K cd_law "law" = true)
    (k_law : PySem.W.keepIn K (.ref f_law) = true)
    {tk_FARTHEST_STEPS : Tok}
    (g_FARTHEST_STEPS : PySem.W.nsIn K mainGlobals "FARTHEST_STEPS" = some (some (.int 2 tk_FARTHEST_STEPS)))
    {tk_GREATEST_POINT : Tok}
    (g_GREATEST_POINT : PySem.W.nsIn K mainGlobals "GREATEST_POINT" = some (some (.int 20 tk_GREATEST_POINT)))
    {tt_N : Option Addr} {tn_N : Nat} {ts_N : Array (Option Value)} {tk_N0 tk_N1 : Tok}
    (g_ONE : PySem.W.nsIn K mainGlobals "ONE" = some (some (.ref A_ONE)))
    (t_ONE : K.lookup A_ONE = some ⟨.type "tuple", tt_N, .seq [Value.int 1 tk_N0, Value.int 1 tk_N1].toArray tn_N, ts_N⟩)
    (z_isinstance : PySem.W.nsIn K mainGlobals "isinstance" = some none)
    (z_int : PySem.W.nsIn K mainGlobals "int" = some none)
    (z_bool : PySem.W.nsIn K mainGlobals "bool" = some none)
    (z_tuple : PySem.W.nsIn K mainGlobals "tuple" = some none)
    (z_len : PySem.W.nsIn K mainGlobals "len" = some none)
    (z_abs : PySem.W.nsIn K mainGlobals "abs" = some none)
    (z_list : PySem.W.nsIn K mainGlobals "list" = some none)
    (z_range : PySem.W.nsIn K mainGlobals "range" = some none)
    (z_max : PySem.W.nsIn K mainGlobals "max" = some none)
    (z_sorted : PySem.W.nsIn K mainGlobals "sorted" = some none)
    (z_all : PySem.W.nsIn K mainGlobals "all" = some none)
    (z_zip : PySem.W.nsIn K mainGlobals "zip" = some none)
    (z_str : PySem.W.nsIn K mainGlobals "str" = some none) :
    ∃ fd : FuncData, (∀ (s : Shared) (v : Value), BindsTo s fd ⟨[v], []⟩ [("_law_script", v)]) ∧ ∀ base : Heap, K.In base → base.Ns mainGlobals mg → FnOk l.prog w K mg base CX0 6 fa fd ["_law_script"] (spLaw K) := by
  have F_is_whole := fun_mk (st := s_is_whole) l_is_whole c_is_whole k_is_whole
  have b_is_whole := F_is_whole.binds (ps := ["thing"]) fun _ _ _ _ _ _ us hl => match us, hl with | [_], _ => rfl
  have F_is_fraction := fun_mk (st := s_is_fraction) l_is_fraction c_is_fraction k_is_fraction
  have b_is_fraction := F_is_fraction.binds (ps := ["thing"]) fun _ _ _ _ _ _ us hl => match us, hl with | [_], _ => rfl
  have F_shared_divisor := fun_mk (st := s_shared_divisor) l_shared_divisor c_shared_divisor k_shared_divisor
  have b_shared_divisor := F_shared_divisor.binds (ps := ["top", "bottom"]) fun _ _ _ _ _ _ us hl => match us, hl with | [_, _], _ => rfl
  have F_lowest := fun_mk (st := s_lowest) l_lowest c_lowest k_lowest
  have b_lowest := F_lowest.binds (ps := ["top", "bottom"]) fun _ _ _ _ _ _ us hl => match us, hl with | [_, _], _ => rfl
  have F_plus := fun_mk (st := s_plus) l_plus c_plus k_plus
  have b_plus := F_plus.binds (ps := ["one", "other"]) fun _ _ _ _ _ _ us hl => match us, hl with | [_, _], _ => rfl
  have F_size_of := fun_mk (st := s_size_of) l_size_of c_size_of k_size_of
  have b_size_of := F_size_of.binds (ps := ["one"]) fun _ _ _ _ _ _ us hl => match us, hl with | [_], _ => rfl
  have F_under := fun_mk (st := s_under) l_under c_under k_under
  have b_under := F_under.binds (ps := ["one", "other"]) fun _ _ _ _ _ _ us hl => match us, hl with | [_, _], _ => rfl
  have F_is_place := fun_mk (st := s_is_place) l_is_place c_is_place k_is_place
  have b_is_place := F_is_place.binds (ps := ["thing", "many"]) fun _ _ _ _ _ _ us hl => match us, hl with | [_, _], _ => rfl
  have F_is_wanted := fun_mk (st := s_is_wanted) l_is_wanted c_is_wanted k_is_wanted
  have b_is_wanted := F_is_wanted.binds (ps := ["one", "two"]) fun _ _ _ _ _ _ us hl => match us, hl with | [_, _], _ => rfl
  have F_is_still_pair := fun_mk (st := s_is_still_pair) l_is_still_pair c_is_still_pair k_is_still_pair
  have b_is_still_pair := F_is_still_pair.binds (ps := ["one", "two", "end"]) fun _ _ _ _ _ _ us hl => match us, hl with | [_, _, _], _ => rfl
  have F_numbers_near := fun_mk (st := s_numbers_near) l_numbers_near c_numbers_near k_numbers_near
  have b_numbers_near := F_numbers_near.binds (ps := ["value", "end"]) fun _ _ _ _ _ _ us hl => match us, hl with | [_, _], _ => rfl
  have F_far_off := fun_mk (st := s_far_off) l_far_off c_far_off k_far_off
  have b_far_off := F_far_off.binds (ps := ["number", "value", "end", "bottom"]) fun _ _ _ _ _ _ us hl => match us, hl with | [_, _, _, _], _ => rfl
  have F_nearest_still := fun_mk (st := s_nearest_still) l_nearest_still c_nearest_still k_nearest_still
  have b_nearest_still := F_nearest_still.binds (ps := ["one", "two", "point"]) fun _ _ _ _ _ _ us hl => match us, hl with | [_, _, _], _ => rfl
  have F__law_cell_at := fun_mk (st := s__law_cell_at) l__law_cell_at c__law_cell_at k__law_cell_at
  have b__law_cell_at := F__law_cell_at.binds (ps := ["_law_script", "_law_k"]) fun _ _ _ _ _ _ us hl => match us, hl with | [_, _], _ => rfl
  have F__law_well := fun_mk (st := s__law_well) l__law_well c__law_well k__law_well
  have b__law_well := F__law_well.binds (ps := ["_law_cell"]) fun _ _ _ _ _ _ us hl => match us, hl with | [_], _ => rfl
  have F__law_draw := fun_mk (st := s__law_draw) l__law_draw c__law_draw k__law_draw
  have b__law_draw := F__law_draw.binds (ps := ["_law_well_here", "_law_many"]) fun _ _ _ _ _ _ us hl => match us, hl with | [_, _], _ => rfl
  have F__law_low := fun_mk (st := s__law_low) l__law_low c__law_low k__law_low
  have b__law_low := F__law_low.binds (ps := ["_law_top", "_law_bottom"]) fun _ _ _ _ _ _ us hl => match us, hl with | [_, _], _ => rfl
  have F__law_same := fun_mk (st := s__law_same) l__law_same c__law_same k__law_same
  have b__law_same := F__law_same.binds (ps := ["_law_found", "_law_due"]) fun _ _ _ _ _ _ us hl => match us, hl with | [_, _], _ => rfl
  have F__law_wanted := fun_mk (st := s__law_wanted) l__law_wanted c__law_wanted k__law_wanted
  have b__law_wanted := F__law_wanted.binds (ps := ["_law_well_here"]) fun _ _ _ _ _ _ us hl => match us, hl with | [_], _ => rfl
  have F__law_off := fun_mk (st := s__law_off) l__law_off c__law_off k__law_off
  have b__law_off := F__law_off.binds (ps := ["_law_pair", "_law_this", "_law_both", "_law_scale"]) fun _ _ _ _ _ _ us hl => match us, hl with | [_, _, _, _], _ => rfl
  have F__law_word := fun_mk (st := s__law_word) l__law_word c__law_word k__law_word
  have b__law_word := F__law_word.binds (ps := ["_law_pair", "_law_scale"]) fun _ _ _ _ _ _ us hl => match us, hl with | [_, _], _ => rfl
  have F_law := fun_mk (st := s_law) l_law c_law k_law
  have b_law := F_law.binds (ps := ["_law_script"]) fun _ _ _ _ _ _ us hl => match us, hl with | [_], _ => rfl
  have tO : ∀ H, SqT K H A_ONE [V.int 1, V.int 1] := fun H => .inr ⟨_, _, _, t_ONE, rfl, rfl, (by show 2 ≤ sizeLine; decide), (.cons ⟨_, rfl⟩ (.cons ⟨_, rfl⟩ .nil))⟩
  have gO := PySem.W.mg_of X G g_ONE
  have gF := PySem.W.mg_of X G g_FARTHEST_STEPS
  have gP := PySem.W.mg_of X G g_GREATEST_POINT
  have z : Zs mg := ⟨PySem.W.mg_none_of X G z_isinstance, PySem.W.mg_none_of X G z_int, PySem.W.mg_none_of X G z_bool, PySem.W.mg_none_of X G z_tuple, PySem.W.mg_none_of X G z_len, PySem.W.mg_none_of X G z_abs, PySem.W.mg_none_of X G z_list, PySem.W.mg_none_of X G z_range, PySem.W.mg_none_of X G z_max, PySem.W.mg_none_of X G z_sorted, PySem.W.mg_none_of X G z_all, PySem.W.mg_none_of X G z_zip, PySem.W.mg_none_of X G z_str⟩
  have e := hfa.symm.trans (PySem.W.mg_of X G a_law)
  cases e
  refine ⟨PySem.W.fnOf "law" "law" (defArgs s_law) (defBody s_law) (defScope s_law) .none kV_law dc_law pm_law an_law cd_law ct_law, fun s v => .of_eq rfl, fun base _ _ => ?_⟩
  have c_is_whole : Cal l.prog w K mg base 1 "is_whole" ["thing"] _ := ⟨f_is_whole, _, PySem.W.mg_of X G a_is_whole, k_is_whole, b_is_whole, ok_is_whole (k := 0) F_is_whole z⟩
  have c_shared_divisor : Cal l.prog w K mg base 1 "shared_divisor" ["top", "bottom"] _ := ⟨f_shared_divisor, _, PySem.W.mg_of X G a_shared_divisor, k_shared_divisor, b_shared_divisor, ok_shared_divisor (k := 0) F_shared_divisor z⟩
  have c_lowest : Cal l.prog w K mg base 2 "lowest" ["top", "bottom"] _ := ⟨f_lowest, _, PySem.W.mg_of X G a_lowest, k_lowest, b_lowest, ok_lowest F_lowest c_shared_divisor⟩
  have c_plus : Cal l.prog w K mg base 3 "plus" ["one", "other"] _ := ⟨f_plus, _, PySem.W.mg_of X G a_plus, k_plus, b_plus, ok_plus F_plus c_lowest⟩
  have c_size_of : Cal l.prog w K mg base 1 "size_of" ["one"] _ := ⟨f_size_of, _, PySem.W.mg_of X G a_size_of, k_size_of, b_size_of, ok_size_of (k := 0) F_size_of z⟩
  have c_under : Cal l.prog w K mg base 1 "under" ["one", "other"] _ := ⟨f_under, _, PySem.W.mg_of X G a_under, k_under, b_under, ok_under (k := 0) F_under⟩
  have c_is_fraction : Cal l.prog w K mg base 2 "is_fraction" ["thing"] _ := ⟨f_is_fraction, _, PySem.W.mg_of X G a_is_fraction, k_is_fraction, b_is_fraction, ok_is_fraction F_is_fraction z c_is_whole c_shared_divisor⟩
  have c_is_place : Cal l.prog w K mg base 2 "is_place" ["thing", "many"] _ := ⟨f_is_place, _, PySem.W.mg_of X G a_is_place, k_is_place, b_is_place, ok_is_place F_is_place c_is_whole⟩
  have c_is_wanted : Cal l.prog w K mg base 4 "is_wanted" ["one", "two"] _ := ⟨f_is_wanted, _, PySem.W.mg_of X G a_is_wanted, k_is_wanted, b_is_wanted, ok_is_wanted gO tO F_is_wanted c_is_fraction c_under c_size_of c_plus⟩
  have c_is_still_pair : Cal l.prog w K mg base 1 "is_still_pair" ["one", "two", "end"] _ := ⟨f_is_still_pair, _, PySem.W.mg_of X G a_is_still_pair, k_is_still_pair, b_is_still_pair, ok_is_still_pair (k := 0) F_is_still_pair z⟩
  have c_numbers_near : Cal l.prog w K mg base 1 "numbers_near" ["value", "end"] _ := ⟨f_numbers_near, _, PySem.W.mg_of X G a_numbers_near, k_numbers_near, b_numbers_near, ok_numbers_near (k := 0) _ gF F_numbers_near z⟩
  have c_far_off : Cal l.prog w K mg base 1 "far_off" ["number", "value", "end", "bottom"] _ := ⟨f_far_off, _, PySem.W.mg_of X G a_far_off, k_far_off, b_far_off, ok_far_off (k := 0) F_far_off z⟩
  have c_nearest_still : Cal l.prog w K mg base 5 "nearest_still" ["one", "two", "point"] _ := ⟨f_nearest_still, _, PySem.W.mg_of X G a_nearest_still, k_nearest_still, b_nearest_still, ok_nearest_still _ gP F_nearest_still z c_is_wanted c_is_place c_numbers_near c_far_off c_is_still_pair⟩
  have kb_n := Fun.kbn (ps := ["one", "two", "point"]) (ks := ["point", "two", "one"]) (n := 0) (g := fun us ws => us ++ ws.reverse) (gV := fun vs zs => vs ++ zs.reverse) F_nearest_still (fun a b => Vals.append a (Vals.rev b)) (fun _ _ _ _ _ _ us ws h1 h2 => match us, ws, h1, h2 with | [], [_, _, _], _, _ => rfl)
  have ck_n : CalK l.prog w K mg base 5 "nearest_still" ["one", "two", "point"] 0 ["point", "two", "one"] (fun vs zs => vs ++ zs.reverse) spNear := ⟨f_nearest_still, _, _, PySem.W.mg_of X G a_nearest_still, k_nearest_still, kb_n, ok_nearest_still _ gP F_nearest_still z c_is_wanted c_is_place c_numbers_near c_far_off c_is_still_pair⟩
  have c__law_cell_at : Cal l.prog w K mg base 1 "_law_cell_at" ["_law_script", "_law_k"] _ := ⟨f__law_cell_at, _, PySem.W.mg_of X G a__law_cell_at, k__law_cell_at, b__law_cell_at, ok_cell (k := 0) F__law_cell_at z.len⟩
  have c__law_well : Cal l.prog w K mg base 1 "_law_well" ["_law_cell"] _ := ⟨f__law_well, _, PySem.W.mg_of X G a__law_well, k__law_well, b__law_well, ok_well (k := 0) F__law_well z.int⟩
  have c__law_draw : Cal l.prog w K mg base 1 "_law_draw" ["_law_well_here", "_law_many"] _ := ⟨f__law_draw, _, PySem.W.mg_of X G a__law_draw, k__law_draw, b__law_draw, ok_draw (k := 0) F__law_draw⟩
  have c__law_low : Cal l.prog w K mg base 1 "_law_low" ["_law_top", "_law_bottom"] _ := ⟨f__law_low, _, PySem.W.mg_of X G a__law_low, k__law_low, b__law_low, ok__law_low (k := 0) F__law_low z⟩
  have c__law_wanted : Cal l.prog w K mg base 2 "_law_wanted" ["_law_well_here"] _ := ⟨f__law_wanted, _, PySem.W.mg_of X G a__law_wanted, k__law_wanted, b__law_wanted, ok__law_wanted F__law_wanted c__law_draw c__law_low⟩
  have c__law_off : Cal l.prog w K mg base 1 "_law_off" ["_law_pair", "_law_this", "_law_both", "_law_scale"] _ := ⟨f__law_off, _, PySem.W.mg_of X G a__law_off, k__law_off, b__law_off, ok__law_off (k := 0) F__law_off z⟩
  have c__law_word : Cal l.prog w K mg base 1 "_law_word" ["_law_pair", "_law_scale"] _ := ⟨f__law_word, _, PySem.W.mg_of X G a__law_word, k__law_word, b__law_word, ok__law_word (k := 0) F__law_word z⟩
  have c_same0 : Cal l.prog w K mg base 1 "_law_same" ["_law_found", "_law_due"] (spSameN 0) := ⟨f__law_same, _, PySem.W.mg_of X G a__law_same, k__law_same, b__law_same, ok_sameN (k := 0) F__law_same⟩
  have c_same1 : Cal l.prog w K mg base 2 "_law_same" ["_law_found", "_law_due"] (spSameN 1) := ⟨f__law_same, _, PySem.W.mg_of X G a__law_same, k__law_same, b__law_same, ok_same F__law_same z c_same0⟩
  have c_same2 : Cal l.prog w K mg base 3 "_law_same" ["_law_found", "_law_due"] (spSameN 2) := ⟨f__law_same, _, PySem.W.mg_of X G a__law_same, k__law_same, b__law_same, ok_same F__law_same z c_same1⟩
  have c_same3 : Cal l.prog w K mg base 4 "_law_same" ["_law_found", "_law_due"] (spSameN 3) := ⟨f__law_same, _, PySem.W.mg_of X G a__law_same, k__law_same, b__law_same, ok_same F__law_same z c_same2⟩
  have c_same4 : Cal l.prog w K mg base 5 "_law_same" ["_law_found", "_law_due"] (spSameN 4) := ⟨f__law_same, _, PySem.W.mg_of X G a__law_same, k__law_same, b__law_same, ok_same F__law_same z c_same3⟩
  exact ok_law F_law z c__law_cell_at c__law_well c__law_draw c__law_wanted c__law_off c__law_word c_same4 c_nearest_still ck_n

end E1

open PySem PySem.W PyProof.Rows
set_option maxRecDepth 100000 in
set_option maxHeartbeats 0 in
theorem PySem.Challenge.cw_echobound_k85_the_nearest_still_pair_holds : PySem.Challenge.rw_echobound_k85_the_nearest_still_pair.Holds := by
  w_on; o_law; k_head; (case hw => w_witness2)
  k_fill
  refine L2.walk_of (l := PySem.Challenge.rw_echobound_k85_the_nearest_still_pair) (n := 63) (k := 6) (x := "_law_script") (CX := fun _ => L2.CX0) (sp := fun w => E1.spLaw _) rfl (by decide) rfl ⟨rfl, by decide, by decide⟩ (fun w h Y => PySem.W.kIn_of Y) ?F (fun _ _ a ns hl _ hS => ⟨a, ns, rfl, hS, hl, fun _ => rfl⟩) (fun _ _ _ _ _ h => h)
  case F =>
    intro w mg fa h KX G hmg
    refine' E1.all_mk KX G hmg ?a_is_whole ?l_is_whole ?c_is_whole ?k_is_whole ?a_is_fraction ?l_is_fraction ?c_is_fraction ?k_is_fraction ?a_shared_divisor ?l_shared_divisor ?c_shared_divisor ?k_shared_divisor ?a_lowest ?l_lowest ?c_lowest ?k_lowest ?a_plus ?l_plus ?c_plus ?k_plus ?a_size_of ?l_size_of ?c_size_of ?k_size_of ?a_under ?l_under ?c_under ?k_under ?a_is_place ?l_is_place ?c_is_place ?k_is_place ?a_is_wanted ?l_is_wanted ?c_is_wanted ?k_is_wanted ?a_is_still_pair ?l_is_still_pair ?c_is_still_pair ?k_is_still_pair ?a_numbers_near ?l_numbers_near ?c_numbers_near ?k_numbers_near ?a_far_off ?l_far_off ?c_far_off ?k_far_off ?a_nearest_still ?l_nearest_still ?c_nearest_still ?k_nearest_still ?a__law_cell_at ?l__law_cell_at ?c__law_cell_at ?k__law_cell_at ?a__law_well ?l__law_well ?c__law_well ?k__law_well ?a__law_draw ?l__law_draw ?c__law_draw ?k__law_draw ?a__law_low ?l__law_low ?c__law_low ?k__law_low ?a__law_same ?l__law_same ?c__law_same ?k__law_same ?a__law_wanted ?l__law_wanted ?c__law_wanted ?k__law_wanted ?a__law_off ?l__law_off ?c__law_off ?k__law_off ?a__law_word ?l__law_word ?c__law_word ?k__law_word ?a_law ?l_law ?c_law ?k_law ?g_FARTHEST_STEPS ?g_GREATEST_POINT ?g_ONE ?t_ONE ?z_isinstance ?z_int ?z_bool ?z_tuple ?z_len ?z_abs ?z_list ?z_range ?z_max ?z_sorted ?z_all ?z_zip ?z_str
    (case a_is_whole => k_is)
    (case l_is_whole => k_is)
    (case c_is_whole => k_is)
    (case k_is_whole => k_is)
    (case a_is_fraction => k_is)
    (case l_is_fraction => k_is)
    (case c_is_fraction => k_is)
    (case k_is_fraction => k_is)
    (case a_shared_divisor => k_is)
    (case l_shared_divisor => k_is)
    (case c_shared_divisor => k_is)
    (case k_shared_divisor => k_is)
    (case a_lowest => k_is)
    (case l_lowest => k_is)
    (case c_lowest => k_is)
    (case k_lowest => k_is)
    (case a_plus => k_is)
    (case l_plus => k_is)
    (case c_plus => k_is)
    (case k_plus => k_is)
    (case a_size_of => k_is)
    (case l_size_of => k_is)
    (case c_size_of => k_is)
    (case k_size_of => k_is)
    (case a_under => k_is)
    (case l_under => k_is)
    (case c_under => k_is)
    (case k_under => k_is)
    (case a_is_place => k_is)
    (case l_is_place => k_is)
    (case c_is_place => k_is)
    (case k_is_place => k_is)
    (case a_is_wanted => k_is)
    (case l_is_wanted => k_is)
    (case c_is_wanted => k_is)
    (case k_is_wanted => k_is)
    (case a_is_still_pair => k_is)
    (case l_is_still_pair => k_is)
    (case c_is_still_pair => k_is)
    (case k_is_still_pair => k_is)
    (case a_numbers_near => k_is)
    (case l_numbers_near => k_is)
    (case c_numbers_near => k_is)
    (case k_numbers_near => k_is)
    (case a_far_off => k_is)
    (case l_far_off => k_is)
    (case c_far_off => k_is)
    (case k_far_off => k_is)
    (case a_nearest_still => k_is)
    (case l_nearest_still => k_is)
    (case c_nearest_still => k_is)
    (case k_nearest_still => k_is)
    (case a__law_cell_at => k_is)
    (case l__law_cell_at => k_is)
    (case c__law_cell_at => k_is)
    (case k__law_cell_at => k_is)
    (case a__law_well => k_is)
    (case l__law_well => k_is)
    (case c__law_well => k_is)
    (case k__law_well => k_is)
    (case a__law_draw => k_is)
    (case l__law_draw => k_is)
    (case c__law_draw => k_is)
    (case k__law_draw => k_is)
    (case a__law_low => k_is)
    (case l__law_low => k_is)
    (case c__law_low => k_is)
    (case k__law_low => k_is)
    (case a__law_same => k_is)
    (case l__law_same => k_is)
    (case c__law_same => k_is)
    (case k__law_same => k_is)
    (case a__law_wanted => k_is)
    (case l__law_wanted => k_is)
    (case c__law_wanted => k_is)
    (case k__law_wanted => k_is)
    (case a__law_off => k_is)
    (case l__law_off => k_is)
    (case c__law_off => k_is)
    (case k__law_off => k_is)
    (case a__law_word => k_is)
    (case l__law_word => k_is)
    (case c__law_word => k_is)
    (case k__law_word => k_is)
    (case a_law => k_is)
    (case l_law => k_is)
    (case c_law => k_is)
    (case k_law => k_is)
    (case g_FARTHEST_STEPS => k_is)
    (case g_GREATEST_POINT => k_is)
    (case g_ONE => k_is)
    (case t_ONE => k_is)
    (case z_isinstance => k_is)
    (case z_int => k_is)
    (case z_bool => k_is)
    (case z_tuple => k_is)
    (case z_len => k_is)
    (case z_abs => k_is)
    (case z_list => k_is)
    (case z_range => k_is)
    (case z_max => k_is)
    (case z_sorted => k_is)
    (case z_all => k_is)
    (case z_zip => k_is)
    (case z_str => k_is)
