import PyProof.Rows.All
import Wide.All
import OpenK.AllK
import Wide.FinOn
import HandS.Codes
import HandS.ForMost
import HandS.Small
import HandS.StrMore
import KE.KxField
import HandS.Wide
import HandS.Zip
import HandS.IsInst
import HandS.Defaults
import HandS.Style
import HandS.ForExc
import HandS.Walk
import HandS.More
import HandS.CallLocal
import HandS.WideBits
import KE.BitLaws
import KE.KBits
import HandS.FStr
import HandS.ExcField
import HandS.ExcIs
import KE.KExcSuper
import KE.KExcInit
import KE.KExcIs
import PyProof.FitsInt
import HandS.Lambda
import HandS.MakeKw
import HandS.TupMul
import HandS.Text
import HandS.Iter
import KE.RegKSuper
import KE.RegKIsAll
import KE.RegKTryMore
import KE.KNestM
import HandS.EndTab
import PySem.Challenge.RW_echobound_k07_bits
set_option Elab.async false
set_option linter.all false
set_option maxRecDepth 100000


set_option maxHeartbeats 4000000
set_option pp.maxSteps 1500
namespace E1
open PySem PySem.Spec PyProof.Rows L2
def binS (n : Nat) : Str := ⟨((Nat.toDigits 2 n).map Char.toNat).toArray⟩
theorem fieldB {f : Builtin.Float.FormatSpec} {l : List Nat} {g : Nat} (hl : l.isEmpty = false) (f4 : f.width = none) (f5 : f.sign = none) (f7 : f.grouping = none) (f8 : (f.fill == 48 && f.align == 61) = false) : intField' f false [] l [] g = ⟨l.toArray⟩ := by
  have h0 : ((-1 : Int) - ((0 : Nat) + (0 : Nat) + (0 : Nat) : Int) - (l.length : Int)).toNat = 0 := by omega
  unfold intField'
  simp only [f4, f5, f7, f8, hl, Bool.false_eq_true, if_false, List.length_nil, Int.toNat_zero, Nat.zero_sub, List.replicate_zero, List.nil_append, List.append_nil, h0, Nat.zero_div]
  split
  · simp
  · split
    · simp
    · split <;> simp
theorem digs_ne {n : Nat} : ((Nat.toDigits 2 n).map Char.toNat).isEmpty = false := by
  have := Nat.length_toDigits_pos (b := 2) (n := n)
  rw [← List.length_map (f := Char.toNat)] at this
  cases h : (Nat.toDigits 2 n).map Char.toNat with
  | nil => rw [h] at this; simp at this
  | cons a b => rfl
open Builtin Builtin.Int in
theorem fmtB_meets (n : Nat) (t u : Tok) (hn : (binS n).length ≤ sizeLine) : Meets («int.__format__» ⟨[.int (n : Int) t, .str "b" u], []⟩) (fun _ R s => ∀ t' k, R (.ok (.ret (.str (binS n) t'))) { s with toks := k }) := by
  intro prog w A R s h
  unfold «int.__format__»
  simp only [selfAndOne, noKeywords, Int.intOfSelf, asInt?, asStr?, List.isEmpty_nil, if_true, pure_bind, bind_pure, bind_assoc, Bool.false_eq_true, if_false,
    show (Value.str (Str.ofString "b") u == Value.none) = false from rfl]
  refine wpAny_bind (wpAny_typeNameOf (T := "str") (typeIs_str _ _ _) (by decide) fun _ => ?_)
  rw [if_neg (by decide +kernel), if_neg (by decide +kernel)]
  refine wpAny_bind (wpAny_typeNameOfCut_int ?_)
  obtain ⟨f, hp, f1, f2, f3, f4, f5, f6, f7, f8⟩ : ∃ f, Float.parseFormatSpec (Str.ofString "b").cps.toList "int" 62 = .ok f ∧ f.type = some 98 ∧ f.precision = none ∧ f.noNeg0 = false ∧ f.width = none ∧ f.sign = none ∧ f.alt = false ∧ f.grouping = none ∧ (f.fill == 48 && f.align == 61) = false := by
    have key : (match Float.parseFormatSpec (Str.ofString "b").cps.toList "int" 62 with | .ok f => f.type == some 98 && f.precision.isNone && !f.noNeg0 && f.width.isNone && f.sign.isNone && !f.alt && f.grouping.isNone && !(f.fill == 48 && f.align == 61) | .error _ => false) = true := by kernel_rfl
    cases hp : Float.parseFormatSpec (Str.ofString "b").cps.toList "int" 62 with
    | error m => rw [hp] at key; cases key
    | ok f =>
      rw [hp] at key
      simp only [Bool.and_eq_true, Bool.not_eq_true', Option.isNone_iff_eq_none, beq_iff_eq] at key
      obtain ⟨⟨⟨⟨⟨⟨⟨a1, a2⟩, a3⟩, a4⟩, a5⟩, a6⟩, a7⟩, a8⟩ := key
      exact ⟨f, rfl, a1, a2, a3, a4, a5, a6, a7, a8⟩
  rw [hp]
  dsimp only
  rw [f1, if_pos (by decide)]
  show wpAny _ _ (if _ then _ else _) _ _ _
  rw [if_neg (by simp [f2])]
  show wpAny _ _ (if _ then _ else _) _ _ _
  rw [if_neg (by simp [f3])]
  show wpAny _ _ (if _ then _ else _) _ _ _
  rw [if_neg (by decide)]
  show wpAny _ _ (if _ then _ else _) _ _ _
  rw [if_neg (by decide)]
  show wpAny _ _ (if _ then _ else _) _ _ _
  rw [if_neg (by simp [f4])]
  show wpAny _ _ (retStr _) _ _ _
  refine (fun e => PySem.W.KXf.ret_text (T := binS n) e (by rw [e]; exact hn) fun t k => h t k) ?_
  rw [f6, decide_eq_false (show ¬ ((n : Int) < 0) by omega)]
  have e88 : ((some 98 : Option Nat).getD (if ((Str.ofString "b").cps.back? == some 0) = true then 0 else 100) == 88) = false := rfl
  simp only [e88, Bool.false_eq_true, if_false, Int.natAbs_natCast]
  clear hp h
  obtain ⟨fill, align, sign, noNeg0, alt, width, grouping, precision, type⟩ := f
  dsimp only at f1 f2 f3 f4 f5 f6 f7 f8
  subst f1 f2 f3 f4 f5 f6 f7
  unfold binS
  rw [← fieldB (l := (Nat.toDigits 2 n).map Char.toNat) (f := ⟨fill, align, none, false, false, none, none, none, some 98⟩) (g := 4) digs_ne rfl rfl rfl f8]
  rfl
/-- {x:b} of a whole number from 0 on -/
def tFmtB (te ts : TE) : TE := fun σ H Q => te σ H fun x H1 => ts σ H1 fun y H2 => ∃ n : Nat, x = .int (n : Int) ∧ y = .str "b" ∧ (binS n).length ≤ sizeLine ∧ Q (.str (binS n)) H2
theorem pe_fmtB {X : Cx} {e sp : Expr} {te ts : TE} {pos : Pos} (he : PE X e te) (hs : PE X sp ts) : PE X (.FormattedValue e (-1) (some sp) pos) (tFmtB te ts) := by
  refine ⟨fun pins s σ H Q I h => ?_⟩
  refine wpAny_FormattedValue_spec (thn (he.run pins s σ H _ I h) fun v s1 ⟨x, H1, I1, r1, q1⟩ => thn (hs.run pins s1 σ H1 _ I1 q1) fun u s2 ⟨y, H2, I2, r2, n, ex, ey, hz, q⟩ => ?_)
  subst ex ey
  obtain ⟨t, rfl⟩ := r1
  obtain ⟨t2, rfl⟩ := r2
  refine ⟨_, t2, rfl, PySem.W.KXf.field_int rfl (by decide +kernel) (by decide +kernel) (fun u => fmtB_meets n t u hz) fun t' k => ?_⟩
  exact ⟨.str (binS n), H2, I2.tok k, ⟨t', rfl⟩, q⟩
end E1

namespace E1
open PySem PySem.Spec PyProof.Rows L2
/-! ### bits -/
/-- the lowest k bits of a number, the highest first, as signs -/
def lowb : Int → Nat → List Nat
  | _, 0 => []
  | e, k + 1 => lowb (e / 2) k ++ [48 + (e % 2).toNat]
theorem lowb_len : ∀ (k : Nat) (e : Int), (lowb e k).length = k
  | 0, _ => rfl
  | k + 1, e => by
    show (lowb (e / 2) k ++ [48 + (e % 2).toNat]).length = k + 1
    rw [List.length_append, lowb_len k]
    rfl
theorem lowb_cons : ∀ (k : Nat) (e : Int), lowb e (k + 1) = (48 + ((e / 2 ^ k) % 2).toNat) :: lowb e k
  | 0, e => by
    show [] ++ [48 + (e % 2).toNat] = [48 + ((e / 2 ^ 0) % 2).toNat]
    rw [Int.pow_zero, Int.ediv_one]
    rfl
  | k + 1, e => by
    show lowb (e / 2) (k + 1) ++ [48 + (e % 2).toNat] = _
    rw [lowb_cons k (e / 2), Int.ediv_ediv_of_nonneg (by decide), show (2 : Int) * 2 ^ k = 2 ^ (k + 1) by rw [Int.pow_succ, Int.mul_comm]]
    rfl
theorem lowb_add : ∀ (k : Nat) (e : Int), lowb (e + 2 ^ k) k = lowb e k
  | 0, _ => rfl
  | k + 1, e => by
    show lowb ((e + 2 ^ (k + 1)) / 2) k ++ [48 + ((e + 2 ^ (k + 1)) % 2).toNat] = lowb (e / 2) k ++ [48 + (e % 2).toNat]
    have h2 : (2 : Int) ^ (k + 1) = 2 ^ k * 2 := Int.pow_succ ..
    rw [h2, Int.add_mul_ediv_right _ _ (by decide), Int.add_mul_emod_self_right, lowb_add k]
theorem lowb_bit : ∀ (k : Nat) (e : Int), ∀ c ∈ lowb e k, c = 48 ∨ c = 49
  | 0, _, c, h => by cases h
  | k + 1, e, c, h => by
    rcases List.mem_append.mp h with h | h
    · exact lowb_bit k _ c h
    · rw [List.mem_singleton] at h
      omega
/-- what signs are worth -/
def worthB (l : List Nat) : Int := l.foldl (fun (n : Int) (c : Nat) => 2 * n + ((c : Int) - 48)) 0
theorem worthB_snoc (l : List Nat) (c : Nat) : worthB (l ++ [c]) = 2 * worthB l + ((c : Int) - 48) := by
  unfold worthB
  rw [List.foldl_append]
  rfl
theorem worth_lowb : ∀ (k : Nat) (e : Int), worthB (lowb e k) = e % 2 ^ k
  | 0, e => by
    rw [Int.pow_zero, Int.emod_one]
    rfl
  | k + 1, e => by
    show worthB (lowb (e / 2) k ++ [48 + (e % 2).toNat]) = _
    rw [worthB_snoc, worth_lowb k, show (2 : Int) ^ (k + 1) = 2 * 2 ^ k by rw [Int.pow_succ, Int.mul_comm]]
    have h1 : e % (2 * 2 ^ k) = 2 * ((e / 2) % 2 ^ k) + e % 2 := by
      have a := Int.emod_two_eq e
      have p : (0 : Int) < 2 ^ k := Int.pow_pos (by decide)
      have e1 := Int.mul_ediv_add_emod e 2
      have e2 := Int.mul_ediv_add_emod (e / 2) (2 ^ k)
      have lo := Int.emod_nonneg (e / 2) (show (2 : Int) ^ k ≠ 0 by omega)
      have hi := Int.emod_lt_of_pos (e / 2) p
      have key : e = (2 * ((e / 2) % 2 ^ k) + e % 2) + (2 * 2 ^ k) * (e / 2 / 2 ^ k) := by
        rw [Int.mul_assoc]
        omega
      have r0 : 0 ≤ 2 * ((e / 2) % 2 ^ k) + e % 2 := by omega
      have r1 : 2 * ((e / 2) % 2 ^ k) + e % 2 < 2 * 2 ^ k := by omega
      generalize hr : 2 * ((e / 2) % 2 ^ k) + e % 2 = r at *
      generalize e / 2 / 2 ^ k = m at key
      rw [key, Int.add_mul_emod_self_left, Int.emod_eq_of_lt r0 r1]
    rw [h1]
    have := Int.emod_two_eq e
    omega
theorem digs_two {n : Nat} (h : 2 ≤ n) : (Nat.toDigits 2 n).map Char.toNat = (Nat.toDigits 2 (n / 2)).map Char.toNat ++ [48 + n % 2] := by
  rw [Nat.toDigits_of_base_le (by decide) h, List.map_append]
  rcases Nat.mod_two_eq_zero_or_one n with e | e <;> rw [e] <;> rfl
theorem digs_one {n : Nat} (h : n < 2) : (Nat.toDigits 2 n).map Char.toNat = [48 + n] := by
  rcases (by omega : n = 0 ∨ n = 1) with rfl | rfl <;> rfl
theorem pad_digs : ∀ (w n : Nat), n < 2 ^ (w + 1) → ((Nat.toDigits 2 n).map Char.toNat).length ≤ w + 1 ∧ List.replicate (w + 1 - ((Nat.toDigits 2 n).map Char.toNat).length) 48 ++ (Nat.toDigits 2 n).map Char.toNat = lowb (n : Int) (w + 1)
  | 0, n, h => by
    have h2 : n < 2 := by simpa using h
    rw [digs_one h2]
    refine ⟨by simp, ?_⟩
    show [48 + n] = [] ++ [48 + ((n : Int) % 2).toNat]
    rw [show ((n : Int) % 2).toNat = n by omega]
    rfl
  | w + 1, n, h => by
    have hl : lowb (n : Int) (w + 2) = lowb ((n / 2 : Nat) : Int) (w + 1) ++ [48 + n % 2] := by
      show lowb ((n : Int) / 2) (w + 1) ++ [48 + ((n : Int) % 2).toNat] = _
      rw [show ((n : Int) % 2).toNat = n % 2 by omega]
      rfl
    rw [hl]
    have hn : n / 2 < 2 ^ (w + 1) := by
      have : (2 : Nat) ^ (w + 1 + 1) = 2 ^ (w + 1) * 2 := Nat.pow_succ ..
      omega
    obtain ⟨i1, i2⟩ := pad_digs w (n / 2) hn
    by_cases h2 : 2 ≤ n
    · rw [digs_two h2, ← i2]
      refine ⟨by rw [List.length_append]; exact Nat.succ_le_succ i1, ?_⟩
      rw [List.length_append, ← List.append_assoc]
      congr 3
      show w + 1 + 1 - (_ + 1) = _
      omega
    · have h3 : n < 2 := by omega
      rw [digs_one h3, ← i2, show n / 2 = 0 by omega, digs_one (show 0 < 2 by decide), show n % 2 = n by omega]
      refine ⟨by simp, ?_⟩
      show List.replicate (w + 1) 48 ++ [48 + n] = List.replicate w 48 ++ [48] ++ [48 + n]
      rw [List.replicate_succ']
def txt (l : List Nat) : Str := ⟨l.toArray⟩
theorem txt_app (a b : List Nat) : txt a ++ txt b = txt (a ++ b) := by
  show (⟨a.toArray ++ b.toArray⟩ : Str) = ⟨(a ++ b).toArray⟩
  rw [List.append_toArray]
theorem txt_len (a : List Nat) : (txt a).length = a.length := by
  show a.toArray.size = a.length
  simp
theorem txt_list (a : List Nat) : (txt a).cps.toList = a := rfl
theorem txt_eta (z : Str) : txt z.cps.toList = z := by
  show (⟨z.cps.toList.toArray⟩ : Str) = z
  rw [Array.toArray_toList]
theorem binS_len {w n : Nat} (h : n < 2 ^ (w + 1)) : (binS n).length ≤ w + 1 := by
  rw [show binS n = txt ((Nat.toDigits 2 n).map Char.toNat) from rfl, txt_len]
  exact (pad_digs w n h).1
theorem zfill_bin {w n : Nat} (h : n < 2 ^ (w + 1)) : Txt.zfill (binS n) ((w + 1 : Nat) : Int) = txt (lowb (n : Int) (w + 1)) := by
  obtain ⟨h1, h2⟩ := pad_digs w n h
  rw [← h2]
  generalize hl : (Nat.toDigits 2 n).map Char.toNat = l at *
  have e : binS n = txt l := by rw [← hl]; rfl
  rw [e]
  unfold Txt.zfill
  rw [txt_len]
  by_cases hc : ((w + 1 : Nat) : Int) ≤ (l.length : Int)
  · rw [if_pos hc, show w + 1 - l.length = 0 by omega]
    rfl
  · rw [if_neg hc]
    have hh : (txt l).cps[0]? = some 48 ∨ (txt l).cps[0]? = some 49 := by
      have hb : ∀ c ∈ l, c = 48 ∨ c = 49 := fun c hcm => lowb_bit (w + 1) (n : Int) c (by rw [← h2]; exact List.mem_append_right _ hcm)
      have hne := digs_ne (n := n)
      rw [hl] at hne
      cases l with
      | nil => cases hne
      | cons a b =>
        have : (txt (a :: b)).cps[0]? = some a := by simp [txt]
        rw [this]
        rcases hb a List.mem_cons_self with rfl | rfl
        · exact .inl rfl
        · exact .inr rfl
    unfold zfilled
    rcases hh with hh | hh <;> rw [hh] <;> simp [Builtin.Str.padded, txt, Int.toNat_natCast]
end E1

namespace PySem
namespace ErrX
open PySem.W PySem.Calls PyProof.Rows PySem.HandSPX
abbrev bmA : List Value := [.type "ArithmeticError", .type "Exception", .type "BaseException", .type "object"]
/-- what the written part says of an error class under ArithmeticError -/
structure ErrC (K : Frag) (mg : Str → Option Value) (x : Str) (C : Addr) : Prop where
  gC : mg x = some (.ref C)
  ei : excInitIn K C bmA "ArithmeticError.__new__" = true
  eo : excOver K C bmA = true
  sa : findIn K (.ref C) "__setattr__" = some (some (.builtin "object.__setattr__"))
  ga : findIn K (.ref C) "__getattribute__" = some (some (.builtin "BaseException.__getattribute__"))
  gg : findIn K (.ref C) "__getattr__" = some none
  kC : keepIn K (.ref C) = true
  exC : subIn K (.ref C) (.type "BaseException") = some true
  tyC : typeIn K (.ref C) = some (.type "type")
  hdC : hasDictIn K C = true
/-- its __init__: super().__init__(f'..'), then one field of the same name as the parameter -/
structure IniC (prog : Program) (K : Frag) (mg : Str → Option Value) (C fI cc : Addr) (qual fld : Str) (st : Stmt) (dV : Value) : Prop where
  iC : findIn K (.ref C) "__init__" = some (some (.ref fI))
  tC : typeIn K (.ref fI) = some (.type "function")
  fn : ∃ (oc : Value) (od : Option Addr) (kV doc pm : Value) (an : Option Addr) (cda : Addr) (ct : Value) (osl : Array (Option Value)),
    K.lookup fI = some ⟨oc, od, .func (ksFn "__init__" qual (L2.defArgs st) (L2.defBody st) (L2.defScope st) dV kV doc pm an (.ref cda) ct cc), osl⟩ ∧ codeIn K (.ref cda) qual = true ∧
    ∃ (ccl : Value) (cdd : Option Addr) (vs : Array Value) (ccs : Array (Option Value)) (file : Str) (tf : Tok), K.lookup cda = some ⟨ccl, cdd, .fields vs, ccs⟩ ∧ vs[2]? = some (.str file tf) ∧ ((prog.main.file : Str) == file) = true
  cell : ∃ (cl : Value) (cld : Option Addr) (csl : Array (Option Value)), K.lookup cc = some ⟨cl, cld, .cell (some (.ref C)), csl⟩
  noF : findIn K (.ref C) fld = some none
  sup : ks_superIn K C C "__init__" = some (some (.builtin "ArithmeticError.__init__"))
  subA : subIn K (.ref C) (.type "ArithmeticError") = some true
  slf : mroIn K C (.ref C) = some true
  th : nsIn K cStatics "thirdparty.any" = some none
  msup : mg "super" = none
  top : (prog.main.scope.names.lookup ("super" : Str)).isSome = false
/-- the parts of the text -/
inductive FP (fld : Str) : Expr → Prop
  | c {x : Str} {j : Nat} {pos : Pos} (h : x.length ≤ 1000) : FP fld (.Constant (.str x) j pos)
  | f {p q : Pos} : FP fld (.FormattedValue (.Name fld p) (-1) none q)
/-- a value that is written as a text of at most a thousand signs -/
def FmtOk (v : Value) : Prop := (∃ y t, v = .str y t ∧ y.length ≤ 1000) ∨ ∃ i t, v = .int i t ∧ i.natAbs.log2 < 1920 ∧ (toString i : String).length ≤ 1000
section
variable {prog : Program} {w : World} {A : Around} {E : Value → Shared → Prop} {R : Result → Shared → Prop} {s : Shared} {K : Frag} {mg mb : Str → Option Value} {C fI cc : Addr} {qual fld : Str} {st : Stmt}
theorem joins_ok {env : Env} {m : Str → Option Value} {v : Value} (hk : env.scope.kind = .function) (hl : env.kindOf fld = some .local) (hd : (fld == ("__debug__" : Str)) = false) (hv : m fld = some v) (fv : FmtOk v) :
    ∀ (es : List Expr) (acc : Str) (s : Shared) (Q : Str → Shared → Prop), (∀ e ∈ es, FP fld e) → acc.length + 1000 * es.length ≤ 100000 → s.heap.Ns env.locals m →
      (∀ out tk, out.length ≤ 100000 → Q out { s with toks := tk }) → Joins (model prog w) A E (evalEach es env) acc Q s
  | [], acc, s, Q, _, hz, _, hq => by
    have e0 : evalEach [] env = [] := by first | rfl | simp [evalEach]
    rw [e0]
    have := hq acc s.toks (by simpa using hz)
    exact this
  | e :: es, acc, s, Q, hp, hz, hn, hq => by
    have e0 : evalEach (e :: es) env = eval e env :: evalEach es env := by first | rfl | simp [evalEach]
    rw [e0]
    have hp' : ∀ e ∈ es, FP fld e := fun e h => hp e (List.mem_cons_of_mem _ h)
    rw [List.length_cons] at hz
    have step : ∀ (y : Str) (t : Tok) (tk : Nat), y.length ≤ 1000 → ∃ y' t', Value.str y t = .str y' t' ∧ (acc ++ y').length ≤ sizeLine ∧ Joins (model prog w) A E (evalEach es env) (acc ++ y') Q { s with toks := tk } := fun y t tk hy => by
      have hlen : (acc ++ y).length = acc.length + y.length := by first | exact Str.length_append _ _ | simp
      refine ⟨y, t, rfl, ?_, ?_⟩
      · rw [hlen, sizeLine_eq]
        omega
      · exact joins_ok hk hl hd hv fv es (acc ++ y) { s with toks := tk } Q hp' (by rw [hlen]; omega) hn fun out tk' ho => hq out tk' ho
    show wpAny _ _ (eval e env) _ _ _
    cases hp e List.mem_cons_self with
    | c h => exact Calls.Constant_str (step _ _ _ h)
    | f =>
      refine wpAny_FormattedValue_plain (wpAny_Name (wpAny_loadName_local hk hl hn hv ?_) hd)
      rcases fv with ⟨y, t, rfl, hy⟩ | ⟨i, t, rfl, hi, hy⟩
      · exact wpAny_formatField_str (step y t s.toks hy) (step y _ _ hy) (by rw [sizeLine_eq]; omega)
      · exact wpAny_formatField_int hi (step _ _ _ (by rw [ofString_length]; exact hy))
end
end ErrX
end PySem

namespace PySem
namespace ErrX
open PySem.W PySem.Calls PyProof.Rows PySem.HandSPX
/-- a dict with one text for its key -/
theorem one_key {h : Heap} {dx : Addr} {fld : Str} {hs : Int} {tk : Tok} {v : Value} (e : h.get? dx = some (dictOf [⟨hs, .str fld tk, v⟩] 1)) : h.Ns1 dx (fun y => if y = fld then some v else none) := by
  refine ⟨_, _, _, e, rfl, fun d hd => ?_, List.pairwise_singleton _ _, fun y => ?_⟩
  · obtain rfl : d = ⟨hs, .str fld tk, v⟩ := by simpa using hd
    exact ⟨fld, tk, rfl⟩
  · by_cases z : y = fld
    · subst z
      simp [nsFind, findBy, Value.isStr]
    · simp [nsFind, findBy, Value.isStr, z, Ne.symm z]
/-- what __init__ leaves of a fresh error at x -/
structure IniEnd (h h' : Heap) (x C dx : Addr) (fld : Str) (v : Value) : Prop where
  keep : ∀ b o, b ≠ x → h.get? b = some o → h'.get? b = some o
  obj : ∃ t1 : Addr, h'.get? x = some { cls := .ref C, dict := some dx, data := .fields #[.ref t1, .none, .none, .none, .bool false, .none] }
  dbig : h.objs.size ≤ dx
  dne : dx ≠ x
  ns : h'.Ns1 dx (fun y => if y = fld then some v else none)
section
variable {prog : Program} {w : World} {A : Around} {E : Value → Shared → Prop} {R : Result → Shared → Prop} {s : Shared} {K : Frag} {mg : Str → Option Value} {C fI cc : Addr} {nm qual fld : Str} {st : Stmt}
abbrev iniScope (fld : Str) : Scope := { kind := .function, names := [(Str.ofString "self", .local), (fld, .local), (Str.ofString "__class__", .free), (Str.ofString "super", .globalImplicit)], isGenerator := false, isCoroutine := false, more := [] }
abbrev iniBody (fld : Str) (v1 v2 : Expr) (rest : List Expr) (p1 p2 p3 p4 p5 p6 q1 q2 q3 q4 : Pos) : List Stmt :=
  [.Expr (.Call (.Attribute (.Call (.Name "super" p1) [] [] p2) "__init__" p3) [.JoinedStr (v1 :: v2 :: rest) p4] [] p5) p6, .Assign [.Attribute (.Name "self" q1) fld q2] (.Name fld q3) q4]
/-- a field's name that is none of these -/
structure FldOk (fld : Str) : Prop where
  f1 : (fld == Str.ofString "self") = false
  f2 : (Str.ofString "__class__" == fld) = false
  f3 : (Str.ofString "super" == fld) = false
  f4 : (Str.ofString "self" == fld) = false
  f5 : (fld == Str.ofString "__debug__") = false
section
variable {fld : Str}
theorem lk_self : (iniScope fld).names.lookup (Str.ofString "self") = some .local := by
  rw [List.lookup_cons, beq_self_eq_true]
theorem lk_fld (O : FldOk fld) : (iniScope fld).names.lookup fld = some .local := by
  rw [List.lookup_cons, O.f1, List.lookup_cons, beq_self_eq_true]
theorem lk_cls (O : FldOk fld) : (iniScope fld).names.lookup (Str.ofString "__class__") = some .free := by
  rw [List.lookup_cons, show (Str.ofString "__class__" == Str.ofString "self") = false by decide +kernel, List.lookup_cons, O.f2, List.lookup_cons, beq_self_eq_true]
theorem lk_sup (O : FldOk fld) : (iniScope fld).names.lookup (Str.ofString "super") = some .globalImplicit := by
  rw [List.lookup_cons, show (Str.ofString "super" == Str.ofString "self") = false by decide +kernel, List.lookup_cons, O.f3, List.lookup_cons, show (Str.ofString "super" == Str.ofString "__class__") = false by decide +kernel, List.lookup_cons, beq_self_eq_true]
end
theorem err_init {s1 p1 p2 p3 p4 p5 p6 q1 q2 q3 q4 : Pos} {v1 v2 : Expr} {rest : List Expr} (EC : ErrC K mg nm C) {dV : Value} (IC : IniC prog K mg C fI cc qual fld st dV) (O : FldOk fld)
    (hbd : L2.defBody st = iniBody fld v1 v2 rest p1 p2 p3 p4 p5 p6 q1 q2 q3 q4)
    (hpar : ((L2.defArgs st).posonlyargs ++ (L2.defArgs st).args).head? = some { arg := "self", annotation := none, pos := s1 })
    (hps : ∀ e ∈ v1 :: v2 :: rest, FP fld e) (hlen : rest.length ≤ 20) (hpos : (p3.endLine == p5.line) = true) (hsc : L2.defScope st = iniScope fld)
    {x t0 : Addr} {v : Value} (MO : L2.Mod K mg s.heap) (hx : s.heap.get? x = some (excO C t0)) (hnx : K.lookup x = none) (hroom : A.depth < recursionLimit) (fv : FmtOk v)
    (hbind : ∀ kV doc pm an cda ct, BindsTo s (ksFn "__init__" qual (L2.defArgs st) (L2.defBody st) (L2.defScope st) dV kV doc pm an (.ref cda) ct cc) ⟨[.ref x, v], []⟩ [(Str.ofString "self", .ref x), (fld, v)])
    (hq : ∀ h' tk dx, IniEnd s.heap h' x C dx fld v → R (.ok (.ret .none)) { s with heap := h', toks := tk }) :
    codeAny (model prog w) A (.call (.ref fI) ⟨[.ref x, v], []⟩) R s := by
  obtain ⟨oc, od, kV, doc, pm, an, cda, ct, osl, ho, hcd, ccl, cdd, vs, ccs, file, tf, hcda, hvs, hfile⟩ := IC.fn
  have X := MO.kin
  have hb := hbind kV doc pm an cda ct
  rw [hbd, hsc] at ho hb
  obtain ⟨cl, cld, csl, hcell⟩ := IC.cell
  obtain ⟨mb, hmb, hmb2⟩ := MO.blt
  obtain ⟨nm', N', qn, bs, bm, hdct, sn, sub, ab, col, dd, k0, k1, k2, k3, k5, hC, hT⟩ := excInit_of X EC.ei
  obtain ⟨hp, g, d, t, os⟩ := s
  refine ks_codeAny_call_defAt (fd := ksFn "__init__" qual (L2.defArgs st) (iniBody fld v1 v2 rest p1 p2 p3 p4 p5 p6 q1 q2 q3 q4) (iniScope fld) dV kV doc pm an (.ref cda) ct cc) (body := iniBody fld v1 v2 rest p1 p2 p3 p4 p5 p6 q1 q2 q3 q4) (binds := [(Str.ofString "self", .ref x), (fld, v)])
    hroom (X _ _ ho) rfl MO.nolimit (codeRec_of X hcd) rfl hb ?_ ?_ (fun h₁ hns k => ?_)
  · intro y hy z
    have hy' : y ∈ (iniScope fld).names := hy
    simp only [List.mem_cons, List.not_mem_nil, or_false] at hy'
    rcases hy' with rfl | rfl | rfl | rfl <;> cases z
  · intro y hy
    simp only [List.mem_cons, List.not_mem_nil, or_false] at hy
    rcases hy with rfl | rfl
    · exact lk_self
    · exact lk_fld O
  · have X₁ : K.In h₁ := X.keeps k
    have hx₁ := k _ _ hx
    have hC₁ := k _ _ hC
    have mS : (fun y => [(Str.ofString "self", Value.ref x), (fld, v)].reverse.lookup y) (Str.ofString "self") = some (.ref x) := by
      show List.lookup (Str.ofString "self") [(fld, v), (Str.ofString "self", Value.ref x)] = _
      rw [List.lookup_cons, O.f4, List.lookup_cons, beq_self_eq_true]
    have mF : (fun y => [(Str.ofString "self", Value.ref x), (fld, v)].reverse.lookup y) fld = some v := by
      show List.lookup fld [(fld, v), (Str.ofString "self", Value.ref x)] = _
      rw [List.lookup_cons, beq_self_eq_true]
    refine ks_wpAt_execs_cons (ks_wpAt_Expr_any (ks_wpAt_MethodCall (pl := (do return (← importBound (.Call (.Name "super" p1) [] [] p2) (ksEnv qual (iniScope fld) hp.objs.size fI (.ref cda) cc)).getD true)) ?_ ?_))
    rotate_left
    · rw [arm_eval_Call]
      unfold methodCall
      have e2 : ∀ env : Env, methodCallPos (methodCallForm ([Expr.JoinedStr (v1 :: v2 :: rest) p4].length + ([] : List Keyword).length) (backTo p5 (starEach [Expr.JoinedStr (v1 :: v2 :: rest) p4] env)) (backToKw p5 (keywordEach [] env))) (.Call (.Name "super" p1) [] [] p2) env p3 p5 = pure p5 := fun env => by
        show (if (!true || p3.endLine == p5.line) = true then pure p5 else _) = _
        rw [hpos]
        rfl
      rw [e2]
      rfl
    refine ks_wpAt_super_base (f := fI) (cc := cda) (lk_sup O) (lk_cls O) (by decide +kernel) rfl (X₁ _ _ ho) rfl hpar rfl (X₁ _ _ hcda) rfl hvs hfile IC.top ?_
    refine ks_loadName_global rfl (lk_sup O) (loadGlobal_builtin (MO.glob.keeps k) IC.msup (hmb.keeps k) ((hmb2 "super" (by decide)).trans (show bootBuiltins "super" = some (.type "super") by decide +kernel)) ⟨rfl, ?_⟩)
    refine wpAny_loadName_free rfl (lk_cls O) rfl ⟨_, X₁ _ _ hcell, rfl⟩ ?_
    refine wpAny_loadName_local rfl lk_self hns mS ?_
    refine ks_wpAny_isType_cls hC₁ rfl ⟨rfl, ?_⟩
    refine ks_wpAny_call_super hC₁ rfl hx₁ rfl (fun c z => by cases z) (looks_mroIn X₁ IC.slf) (fun h₂ hso k₂ => ?_)
    have X₂ : K.In h₂ := X₁.keeps k₂
    have hx₂ := k₂ _ _ hx₁
    have I₂ : W.InstAt h₂ x (excO C t0) C none := ⟨hx₂, rfl, rfl, trivial⟩
    have hsup := IC.sup
    unfold ks_superIn at hsup
    cases hc : clsIn K C with
    | none =>
      rw [hc] at hsup
      cases hsup
    | some cd =>
    rw [hc] at hsup
    refine kxs_getMethod kxs_ArithmeticError hso (looks_opaque X₂ IC.th) (l₀ := cd.mro) (fun A Q E s k q => wpAny_bind ((looks_clsIn X₂ hc) A _ E s k (wpAny_pure q))) rfl X₂ hsup (I₂.type.andThen (looks_subIn X₂ IC.subA)) (ks_ne X₂ I₂ hc) (by decide +kernel) ?_
    have k₃ : ∀ b o, h₂.get? b = some o → (h₂.push (kxs_mw "ArithmeticError.__init__" x)).get? b = some o := fun b o e => Heap.get?_push_of_some _ e
    have hu : (h₂.push (kxs_mw "ArithmeticError.__init__" x)).get? h₂.objs.size = some (kxs_mw "ArithmeticError.__init__" x) := Heap.get?_push_at rfl rfl
    have kk : ∀ b o, hp.get? b = some o → (h₂.push (kxs_mw "ArithmeticError.__init__" x)).get? b = some o := fun b o e => k₃ _ _ (k₂ _ _ (k _ _ e))
    have hns₃ : (h₂.push (kxs_mw "ArithmeticError.__init__" x)).Ns hp.objs.size (fun y => [(Str.ofString "self", Value.ref x), (fld, v)].reverse.lookup y) := by
      obtain ⟨oL, es, ep, hL, r⟩ := hns
      exact ⟨oL, es, ep, k₃ _ _ (k₂ _ _ hL), r⟩
    have hx₃ := k₃ _ _ hx₂
    have hC₃ := kk _ _ hC
    have hsz : h₂.objs.size < (h₂.push (kxs_mw "ArithmeticError.__init__" x)).objs.size := Heap.lt_size hu
    generalize h₂.push (kxs_mw "ArithmeticError.__init__" x) = h₃ at *
    refine kxs_callWith (i := "ArithmeticError.__init__") (x := x) rfl (evalArgs_plain ?_)
    refine Calls.spliced_cons (wpAny_JoinedStr (pos := p4) (joins_ok (env := callEnv (ksFn "__init__" qual (L2.defArgs st) (iniBody fld v1 v2 rest p1 p2 p3 p4 p5 p6 q1 q2 q3 q4) (iniScope fld) dV kV doc pm an (.ref cda) ct cc) hp.objs.size fI) rfl (lk_fld O) O.f5 mF fv _ Str.empty _ _ hps ?_ hns₃ fun out tk ho => ⟨by rw [sizeLine_eq]; omega, ?_⟩))
    · rw [List.length_cons, List.length_cons]
      show 0 + 1000 * (rest.length + 1 + 1) ≤ 100000
      omega
    refine Calls.spliced_nil ⟨hu, ?_⟩
    -- the library's own rules, over the heap of the call with the error itself left out
    have xL : x ≠ hp.objs.size := Nat.ne_of_lt (Heap.lt_size hx)
    have nK : ∀ a o, K.lookup a = some o → a ∉ [x] := fun a o e z => by
      rw [List.mem_singleton.mp z, hnx] at e
      cases e
    have X₀ : K.In (hideAll hp [x]) := fun a o e => hideAll_get [x] (X a o e) (nK a o e)
    have F₃ : Fr (hideAll hp [x]) hp.objs.size h₃ (fun y => [(Str.ofString "self", Value.ref x), (fld, v)].reverse.lookup y) :=
      ⟨hns₃, fun b o e => kk b o (of_hideAll [x] e), Nat.le_of_eq (hideAll_size [x] hp)⟩
    have L₂ : hp.objs.size < h₂.objs.size := by
      obtain ⟨oL, es, ep, hL, _⟩ := hns
      exact Heap.lt_size (k₂ _ _ hL)
    have ux : h₂.objs.size ≠ x := Nat.ne_of_gt (Nat.lt_trans (Heap.lt_size hx) L₂)
    have uo : (hideAll hp [x]).get? h₂.objs.size = none := by
      cases e : (hideAll hp [x]).get? h₂.objs.size with
      | none => rfl
      | some o => exact absurd (Nat.lt_trans (Heap.lt_size (of_hideAll [x] e)) L₂) (Nat.lt_irrefl _)
    have N₃ : News (hideAll hp [x]) hp.objs.size h₃ [(h₂.objs.size, kxs_mw "ArithmeticError.__init__" x), (x, excObj C t0 none .none)] := fun p hp' => by
      rcases List.mem_cons.mp hp' with rfl | hp'
      · exact ⟨hu, Nat.ne_of_gt L₂, uo⟩
      · obtain rfl := List.mem_singleton.mp hp'
        exact ⟨hx₃, xL, hideAll_none [x] (List.mem_singleton.mpr rfl)⟩
    refine kxs_call F₃ X₀ N₃ F.excBase_ArithmeticError EC.ei List.mem_cons_self (.tail ux (.head fun p z => nomatch z)) (by show 1 ≤ sizeLine; decide) fun t1 h₄ F₄ N₄ lt₄ => ?_
    have X₄ : K.In h₄ := X₀.keeps F₄.keep
    have hx₄ : h₄.get? x = some (excO C t1) := (N₄ (x, excObj C t1 none .none) (by simp)).1
    have tx : t1 ≠ x := Nat.ne_of_gt (lt₄ (x, excObj C t0 none .none) (by simp))
    refine ks_wpAt_execs_cons (ks_wpAt_Assign_Attr (wpAt_of_wpAny (wpAny_Name (wpAny_loadName_local rfl (lk_fld O) F₄.ns mF ?_) O.f5)))
    refine wpAny_Name (wpAny_loadName_local rfl lk_self F₄.ns mS ?_) (by decide +kernel)
    refine set_plain X₄ (ox := excO C t1) (od := none) ⟨hx₄, rfl, rfl, trivial⟩ EC.sa ?_
    have free : takerIn K C fld = some none := by
      rw [takerIn, IC.noF]
      rfl
    refine osa_exc0 (pre := [(t1, _), (h₂.objs.size, _)]) (post := []) F.store_ArithmeticError F₄ N₄ X₄ EC.eo free EC.hdC (fun p z => ?_) (fun p z => nomatch z) (putName_dict _ _ _ _ _ _) rfl (by show 1 ≤ 1000; decide) fun dx h₅ F₅ N₅ lt₅ => ?_
    · rcases List.mem_cons.mp z with rfl | z
      · exact tx
      · obtain rfl := List.mem_singleton.mp z
        exact ux
    refine wpAt_of_wpAny (wpAny_execs_nil ?_)
    have xd : x < dx := lt₅ (x, excObj C t1 none .none) (by simp)
    have ud : h₂.objs.size < dx := lt₅ (h₂.objs.size, kxs_mw "ArithmeticError.__init__" x) (by simp)
    exact hq h₅ _ dx ⟨fun b o hb e => F₅.keep b o (hideAll_get [x] e fun z => hb (List.mem_singleton.mp z)), ⟨t1, (N₅ (x, excObj C t1 (some dx) .none) (by simp)).1⟩, Nat.le_of_lt (Nat.lt_trans L₂ ud), Nat.ne_of_gt xd, one_key (N₅ _ List.mem_cons_self).1⟩
end
end ErrX
end PySem

namespace PySem
namespace ErrX
open PySem.W PySem.Calls PyProof.Rows PySem.HandSPX
/-- a made error with one field -/
structure Made1 (h h' : Heap) (e C d : Addr) (fld : Str) (v : Value) : Prop where
  keep : ∀ b o, h.get? b = some o → h'.get? b = some o
  new : h.objs.size ≤ e
  obj : ∃ oe vs, h'.get? e = some oe ∧ oe.cls = .ref C ∧ oe.dict = some d ∧ oe.data = .fields vs ∧ vs[1]? = some .none
  dbig : h.objs.size ≤ d
  dne : d ≠ e
  ns : h'.Ns1 d (fun y => if y = fld then some v else none)
/-- its __init__ does as it should -/
structure IniOk (prog : Program) (w : World) (K : Frag) (mg : Str → Option Value) (C fI : Addr) (fld : Str) : Prop where
  iC : findIn K (.ref C) "__init__" = some (some (.ref fI))
  tC : typeIn K (.ref fI) = some (.type "function")
  run : ∀ (A : Around) (R : Result → Shared → Prop) (s : Shared) (x t0 : Addr) (v : Value), L2.Mod K mg s.heap → s.heap.get? x = some (excO C t0) → K.lookup x = none → A.depth < recursionLimit → FmtOk v →
    (∀ h' tk dx, IniEnd s.heap h' x C dx fld v → R (.ok (.ret .none)) { s with heap := h', toks := tk }) → codeAny (model prog w) A (.call (.ref fI) ⟨[.ref x, v], []⟩) R s
section
variable {prog : Program} {w : World} {A : Around} {E : Value → Shared → Prop} {R : Result → Shared → Prop} {s : Shared} {K : Frag} {mg : Str → Option Value} {C fI : Addr} {nm fld : Str}
theorem err_made (EC : ErrC K mg nm C) (IO : IniOk prog w K mg C fI fld) {v : Value} (MO : L2.Mod K mg s.heap) (hroom : A.depth + 1 < recursionLimit) (fv : FmtOk v)
    (hq : ∀ h' tk e d, Made1 s.heap h' e C d fld v → R (.ok (.ret (.ref e))) { s with heap := h', toks := tk }) :
    codeAny (model prog w) A (.call (.ref C) ⟨[v], []⟩) R s := by
  have X := MO.kin
  obtain ⟨nm', N', qn, bs, bm, hdct, sn, sub, ab, col, dd, k0, k1, k2, k3, k5, hC, hT⟩ := excInit_of X EC.ei
  obtain ⟨hp, g, dr, tk, os⟩ := s
  have k : ∀ b o, hp.get? b = some o → ((hp.push (kdv_tup [v])).push (excO C hp.objs.size)).get? b = some o := fun b o e => Heap.get?_push_of_some _ (Heap.get?_push_of_some _ e)
  have hget : ((hp.push (kdv_tup [v])).push (excO C hp.objs.size)).get? (hp.objs.size + 1) = some (excO C hp.objs.size) := by heap_get
  have hnx : K.lookup (hp.objs.size + 1) = none := by
    cases e : K.lookup (hp.objs.size + 1) with
    | none => rfl
    | some o =>
      have z : hp.get? (hp.objs.size + 1) = some o := X _ _ e
      exact absurd (Nat.lt_of_succ_lt (Heap.lt_size z)) (Nat.lt_irrefl _)
  have MO' : L2.Mod K mg ((hp.push (kdv_tup [v])).push (excO C hp.objs.size)) := by
    obtain ⟨mb, h1, h2⟩ := MO.blt
    exact ⟨X.keeps k, MO.glob.keeps k, ⟨mb, h1.keeps k, h2⟩, MO.nolimit.keeps k⟩
  refine call_own F.excBase_ArithmeticError hT hC (looks_findIn X IO.iC) (fun self => bind_fn X self IO.tC) (by show 1 ≤ sizeLine; decide) ?_
  refine IO.run _ _ ⟨(hp.push (kdv_tup [v])).push (excO C hp.objs.size), g, dr, tk, os⟩ _ _ _ MO' hget hnx ?_ fv fun h' tk' dx ⟨k', ⟨t1, hx⟩, dn, dne, hns⟩ => ?_
  · show A.depth + 1 < recursionLimit
    exact hroom
  · have old : ∀ b o, hp.get? b = some o → h'.get? b = some o := fun b o e => k' b o (Nat.ne_of_lt (Nat.lt_succ_of_lt (Heap.lt_size e))) (k b o e)
    have z : hp.objs.size + 1 + 1 ≤ dx := by
      first
        | (simpa only [Heap.size_push] using dn)
        | exact dn
        | (have q := dn; rw [Heap.size_push, Heap.size_push] at q; exact q)
    exact ⟨rfl, hq h' tk' (hp.objs.size + 1) dx ⟨old, Nat.le_succ _, ⟨_, _, hx, rfl, rfl, rfl, rfl⟩, Nat.le_trans (Nat.le_trans (Nat.le_succ _) (Nat.le_succ _)) z, dne, hns⟩⟩
end
end ErrX
end PySem
namespace E1
open PySem PySem.Spec PyProof.Rows L2
open PySem.ErrX (ErrC IniOk FmtOk)
/-- a value that is written as a text of at most a thousand signs -/
def VFmt (v : V) : Prop := (∃ y : Str, v = .str y ∧ y.length ≤ 1000) ∨ ∃ i : Int, v = .int i ∧ i.natAbs.log2 < 1920 ∧ (toString i : String).length ≤ 1000
theorem VFmt.ok {v : V} {u : Value} (h : VFmt v) (r : RelV v u) : FmtOk u := by
  rcases h with ⟨y, rfl, hy⟩ | ⟨i, rfl, hi, hy⟩
  · obtain ⟨t, rfl⟩ := (show ∃ t, u = Value.str y t from r)
    exact .inl ⟨y, t, rfl, hy⟩
  · obtain ⟨t, rfl⟩ := (show ∃ t, u = Value.int i t from r)
    exact .inr ⟨i, t, rfl, hi, hy⟩
theorem relO_one {fld : Str} {v : V} {v' : Value} (r : RelV v v') (f : Str) : RelO (List.lookup f [(fld, v)]) (if f = fld then some v' else none) := by
  by_cases hw : f = fld
  · subst hw
    rw [if_pos rfl]
    have q : List.lookup f [(f, v)] = some v := by simp [List.lookup]
    rw [q]
    exact r
  · rw [if_neg hw]
    have qw : (f == fld) = false := by simpa using hw
    have q2 : List.lookup f [(fld, v)] = none := by simp [List.lookup, qw]
    rw [q2]
    trivial
section
variable {X : Cx} {C fI : Addr} {x fld : Str}
/-- X(e), an error with one field -/
def tMkErr (C : Addr) (fld : Str) (ta : TA) : L2.St → Hp → XK → Prop := fun σ H Q => ta σ H fun vs H1 => ∃ v, vs = [v] ∧ VFmt v ∧ ∀ d, H1 d = none → Q (.ref C) (some d) (upd H1 d (.xd [(fld, v)]))
theorem pmk_err {a : Expr} {ta : TA} {p pos : Pos} {k : Nat} (EC : ErrC X.K X.mg x C) (IO : IniOk X.prog X.w X.K X.mg C fI fld) (hr : Room k X.A) (ha : PA X [a] ta) (hg : Gl X x := by rfl) (hdb : (x == ("__debug__" : Str)) = false := by decide)
    (he : starEach (a :: []) X.env = (false, eval a X.env) :: starEach [] X.env := by rfl) (hpl : (backTo pos (starEach [] X.env)).any (·.1) = false := by rfl) :
    PMk X (.Call (.Name x p) [a] [] pos) (tMkErr C fld ta) := by
  intro pins s σ H Q I h
  refine wpAny_Call_Name_kw (ld_glob I hg EC.gC ?_ hdb)
  refine PySem.W.callWith_K (h₀ := X.base) I.ok.mod.kin EC.kC (thn (ha.run pos pins s σ H _ I h) fun us s1 hh => ?_) he hpl
  obtain ⟨vs, H1, I1, r1, v, ev, fv, q1⟩ := hh
  subst ev
  refine ⟨I1.kIn, ?_⟩
  cases r1 with
  | cons rv rn =>
    rename_i v' us'
    cases rn
    show wpAny _ _ (call (.ref C) [v']) _ _ _
    have MO : Mod X.K X.mg s1.heap := by
      obtain ⟨mb, h1, h2⟩ := I1.mod.blt
      exact ⟨I1.kIn, I1.mod.glob.keeps I1.bk, ⟨mb, h1.keeps I1.bk, h2⟩, I1.nolimit⟩
    obtain ⟨hp, g, dr, tk, os⟩ := s1
    refine wpAny_call (PySem.ErrX.err_made EC IO MO (by have := hr.dp; omega) (fv.ok rv) fun h' tk' e d M => ?_)
    show MkP X pins σ Q (.ref e) ⟨h', g, dr, tk', os⟩
    obtain ⟨oe, fv', hoe, hc, hd, hdat, h1⟩ := M.obj
    have hns := M.ns
    obtain ⟨G', g1, g2⟩ := restrict h' fun b => decide (b ≠ e)
    have gk : ∀ b, b ≠ e → G'.get? b = h'.get? b := fun b hb => g1 b (decide_eq_true hb)
    have ge : G'.get? e = none := g2 e (by simp)
    have old : ∀ b o, hp.get? b = some o → G'.get? b = some o := fun b o q => (gk b (Nat.ne_of_lt (Nat.lt_of_lt_of_le (Heap.lt_size q) M.new))).trans (M.keep b o q)
    have ob : ObjOk X.prog X.w (upd H1 d (.xd [(fld, v)])) G' d (.xd [(fld, v)]) :=
      ⟨_, hns.at (fun o q => (gk d M.dne).trans q), fun f => relO_one rv f⟩
    have J : Inv X pins σ (upd H1 d (.xd [(fld, v)])) ⟨G', g, dr, tk', os⟩ := I1.laid (t' := tk') old M.dbig ob
    refine ⟨e, oe, fv', ⟨G', g, dr, tk', os⟩, _, .ref C, some d, rfl, J, fun b o q => ?_, ge, hoe, ⟨hc, hd⟩, hdat, h1, ?_, rfl, I1.bare, raises_own EC.exC EC.tyC, q1 d (I1.hok.fresh M.dbig)⟩
    · by_cases hb : b = e
      · have q' : G'.get? b = some o := q
        rw [hb, ge] at q'; cases q'
      · exact (gk b hb).symm.trans q
    · rw [upd_ne (Ne.symm M.dne)]
      exact I1.hok.fresh M.new
/-- raise X(e) -/
def tRaiseErr (C : Addr) (fld : Str) (W : WX) (ta : TA) : TS := fun _ σ H => tMkErr C fld ta σ H fun cls d H' => W cls d σ H'
theorem ps_raiseErr {a : Expr} {ta : TA} {W : WX} {p pos pos2 : Pos} {k : Nat} (hc : X.calm = true) (EC : ErrC X.K X.mg x C) (IO : IniOk X.prog X.w X.K X.mg C fI fld) (hr : Room k X.A) (tk : Takes X W) (ha : PA X [a] ta) (hg : Gl X x := by rfl) (hdb : (x == ("__debug__" : Str)) = false := by decide)
    (he : starEach (a :: []) X.env = (false, eval a X.env) :: starEach [] X.env := by rfl) (hpl : (backTo pos (starEach [] X.env)).any (·.1) = false := by rfl) :
    PS X (.Raise (some (.Call (.Name x p) [a] [] pos)) none pos2) (tRaiseErr C fld W ta) := ps_raise hc tk (pmk_err EC IO hr ha hg hdb he hpl)
/-- e.f of a caught error -/
theorem ErrC.xf {K : PySem.W.Frag} {mg : Str → Option Value} (EC : ErrC K mg x C) : XfC K C := ⟨EC.ga, EC.gg, EC.exC, EC.hdC⟩
end
end E1

namespace E1
open PySem PySem.Spec PyProof.Rows L2
open PySem.ErrX (ErrC IniOk FmtOk)
/-- isinstance(e, c), e the error that the suite holds, its class an own one -/
def rIsX (K : PySem.W.Frag) (a : Addr) (cls : Value) (d : Option Addr) : List V → Hp → VK → Prop := fun xs H Q => ∃ (D : Addr) (c : V) (cv : Value) (b : Bool), cls = .ref D ∧ ExcC K D ∧ xs = [.ref a, c] ∧ (∀ u, RelV c u → u = cv) ∧
  (∀ dd, d = some dd → ∃ fs, H dd = some (.xd fs)) ∧ PySem.W.kitOne K (.ref D) cv = some b ∧ Q (.bl b) H
theorem call_isX {X : Cx} {a : Addr} {cls : Value} {d : Option Addr} {oe : Obj} {pn : List (Addr × Obj)} (hz : Zc cls d oe) (hf : ∃ vs, oe.data = .fields vs) : CallR (X.suite a ((a, oe) :: pn)) (.builtin "isinstance") (rIsX X.K a cls d) := by
  intro pins s σ H xs us Q I r ⟨D, c, cv, b, hcls, C, hxs, only, hdd, yes, q⟩
  subst hcls hxs
  match d, hz, hdd, us, r with
  | none, hz, _, us, r => exact call_isE C hz hf pins s σ H _ us Q I r ⟨c, cv, b, rfl, only, yes, q⟩
  | some dd, ⟨kind, own⟩, hdd, [x, u], .cons hx (.cons hu .nil) =>
    cases hx
    cases only u hu
    obtain ⟨fs, tracked⟩ := hdd dd rfl
    obtain ⟨m, space, _⟩ := show ObjOk X.prog X.w H s.heap dd (.xd fs) from I.hok dd _ tracked
    obtain ⟨dict, lies, _⟩ := lookIn_ns space
    obtain ⟨parts, hparts⟩ := hf
    have held := (I.pin (a, oe) (by simp)).1
    have inst : PySem.W.InstAt s.heap a oe D (some dict) := by
      refine ⟨held, kind, ?_, ?_⟩
      · obtain ⟨_, _, dat, _⟩ := oe
        dsimp only at hparts ⊢
        rw [hparts]
        rfl
      · simpa [own] using lies
    have known : (PySem.W.clsIn X.K D).isSome = true := Option.isSome_iff_exists.mpr ((PySem.W.any_some C.hd).imp fun _ z => z.1)
    exact PySem.W.kia_one (PySem.W.kitx_exc known C.hg C.hk C.hs C.ha C.hn C.ht C.hm) I.kIn inst yes (fun z => nomatch z) fun tk => ⟨.bl b, H, I.kept (t' := tk) fun _ _ z => z, rfl, q⟩
/-! ### calls of defs that may raise -/
def CalX (P : Program) (w : World) (K : PySem.W.Frag) (mg : Str → Option Value) (base : Heap) (k : Nat) (x : Str) (ps : List Str) (dvs : List V) (sp : Sp) : Prop :=
  ∃ (f : Addr) (fd : FuncData) (ds : List Value), mg x = some (.ref f) ∧ PySem.W.keepIn K (.ref f) = true ∧ Vals dvs ds ∧ Binds K fd ps ds ∧ FnOk P w K mg base (L2.CX P w) k f fd ps sp
theorem pe_calx {X : Cx} {k j : Nat} {x : Str} {ps : List Str} {dvs : List V} {sp : Sp} {e : Expr} {es : List Expr} {t : TA} {p pos : Pos} (c : CalX X.prog X.w X.K X.mg X.base k x ps dvs sp) (hr : Room j X.A) (ha : PA X (e :: es) t) (hle : k ≤ j := by decide) (hg : Gl X x := by rfl)
    (hdb : (x == ("__debug__" : Str)) = false := by decide) (he : starEach (e :: es) X.env = (false, eval e X.env) :: starEach es X.env := by rfl) (hpl : (backTo pos (starEach es X.env)).any (·.1) = false := by rfl) :
    PE X (.Call (.Name x p) (e :: es) [] pos) (tCall sp dvs E0 t) := by
  obtain ⟨f, fd, ds, h1, h2, hd, h3, h4⟩ := c
  exact pe_call h4 (hr.mono hle) hg h1 h2 h3 hd passL ha hdb he hpl
def CalXK (P : Program) (w : World) (K : PySem.W.Frag) (mg : Str → Option Value) (base : Heap) (k : Nat) (x : Str) (ps : List Str) (n : Nat) (ks : List Str) (gV : List V → List V → List V) (sp : Sp) : Prop :=
  ∃ (f : Addr) (fd : FuncData) (g : List Value → List Value → List Value), mg x = some (.ref f) ∧ PySem.W.keepIn K (.ref f) = true ∧ KBn K fd ps n ks g gV ∧ FnOk P w K mg base (L2.CX P w) k f fd ps sp
theorem pe_calkx0 {X : Cx} {k j : Nat} {x : Str} {ps ks : List Str} {gV : List V → List V → List V} {sp : Sp} {kws : List Keyword} {tk : TA} {p pos : Pos} (c : CalXK X.prog X.w X.K X.mg X.base k x ps 0 ks gV sp) (hr : Room j X.A)
    (hkw : PK X kws tk) (hle : k ≤ j := by decide) (hg : Gl X x := by rfl) (hall : (backToKw pos (keywordEach kws X.env)).all (·.1.isSome) = true := by rfl) (hks : (backToKw pos (keywordEach kws X.env)).filterMap (·.1) = ks := by rfl)
    (hdb : (x == ("__debug__" : Str)) = false := by decide)
    (hpl : ((backTo pos (starEach [] X.env)).any (·.1) || (backToKw pos (keywordEach kws X.env)).any (·.1.isNone)) = false := by rfl) :
    PE X (.Call (.Name x p) [] kws pos) (tCallN 0 ks.length sp gV E0 tNil tk) := by
  obtain ⟨f, fd, g, h1, h2, h3, h4⟩ := c
  refine ⟨fun pins s σ H Q I h => ?_⟩
  refine wpAny_Call_Name_kw (ld_glob I hg h1 ?_ hdb)
  refine PySem.W.callWith_KW0 (h₀ := X.base) I.ok.mod.kin h2 hall (thn (hkw.run pos pins s σ H _ I h) fun ws s2 ⟨zs, H2, I2, rz, l1, l2, q2⟩ => ⟨I2.kIn, ?_⟩) hpl
  rw [hks]
  exact run_fnN (vs := []) (us := []) h4 (hr.mono hle) h3 passL I2 .nil rz l1 l2 q2
/-- a call whose error a try around it waits for -/
theorem pe_calxS {X : Cx} {k j : Nat} {x : Str} {ps : List Str} {sp : Sp} {e : Expr} {es : List Expr} {t : TA} {p pos : Pos} {W : WX} (c : CalX X.prog X.w X.K X.mg X.base k x ps [] sp) (hr : Room j X.A) (tk : Takes X W) (ha : PA X (e :: es) t) (hle : k ≤ j := by decide) (hg : Gl X x := by rfl)
    (hdb : (x == ("__debug__" : Str)) = false := by decide) (he : starEach (e :: es) X.env = (false, eval e X.env) :: starEach es X.env := by rfl) (hpl : (backTo pos (starEach es X.env)).any (·.1) = false := by rfl) :
    PE X (.Call (.Name x p) (e :: es) [] pos) (tCallS sp (WE W) t) := by
  obtain ⟨f, fd, ds, h1, h2, hd, h3, h4⟩ := c
  cases hd
  exact pe_callS h4 (hr.mono hle) hg h1 h2 h3 (fun σ => passAt tk σ) ha hdb he hpl
end E1

namespace E1
open PySem PySem.Spec PyProof.Rows L2
/-! ### a def of the text that is called by its name -/
def Cal (P : Program) (w : World) (K : PySem.W.Frag) (mg : Str → Option Value) (base : Heap) (k : Nat) (x : Str) (ps : List Str) (sp : Sp) : Prop :=
  ∃ (f : Addr) (fd : FuncData), mg x = some (.ref f) ∧ PySem.W.keepIn K (.ref f) = true ∧ Binds K fd ps [] ∧ FnOk P w K mg base CX0 k f fd ps sp
theorem pe_cal {X : Cx} {k j : Nat} {x : Str} {ps : List Str} {sp : Sp} {e : Expr} {es : List Expr} {t : TA} {p pos : Pos} (c : Cal X.prog X.w X.K X.mg X.base k x ps sp) (hr : Room j X.A) (ha : PA X (e :: es) t) (hle : k ≤ j := by decide) (hg : Gl X x := by rfl)
    (hdb : (x == ("__debug__" : Str)) = false := by decide) (he : starEach (e :: es) X.env = (false, eval e X.env) :: starEach es X.env := by rfl) (hpl : (backTo pos (starEach es X.env)).any (·.1) = false := by rfl) :
    PE X (.Call (.Name x p) (e :: es) [] pos) (tCall sp [] E0 t) := by
  obtain ⟨f, fd, h1, h2, h3, h4⟩ := c
  exact pe_call h4 (hr.mono hle) hg h1 h2 h3 .nil pass0 ha hdb he hpl
/-! ### heaps -/
def SameBut (a : Addr) (H H' : Hp) : Prop := ∀ b o, b ≠ a → H b = some o → H' b = some o
theorem SameBut.refl (a : Addr) (H : Hp) : SameBut a H H := fun _ _ _ h => h
theorem SameBut.trans {a : Addr} {H H1 H2 : Hp} (x : SameBut a H H1) (y : SameBut a H1 H2) : SameBut a H H2 := fun b o n h => y b o n (x b o n h)
theorem SameBut.of {a : Addr} {H H' : Hp} (s : Same H H') : SameBut a H H' := fun b o _ h => s b o h
theorem SameBut.upd {a : Addr} {H : Hp} {o : HO} : SameBut a H (upd H a o) := fun b _ n h => by
  rw [upd_ne n]
  exact h
theorem same_new {H : Hp} {p : Addr} {o : HO} (h : H p = none) : Same H (upd H p o) := fun b x e => by
  rw [upd_ne (ne_of_none e h)]
  exact e
theorem Same.tup {K : PySem.W.Frag} {H H' : Hp} {a : Addr} {xs : List V} (e : Same H H') (h : SqT K H a xs) : SqT K H' a xs := by
  rcases h with (h | ⟨o, h⟩) | h
  · exact .inl (.inl (e _ _ h))
  · exact .inl (.inr ⟨o, e _ _ h⟩)
  · exact .inr h
theorem a0 {α : Type} {x : α} {l : List α} : atI (x :: l) 0 = some x := atI_nat (j := 0) rfl
theorem a1 {α : Type} {x y : α} {l : List α} : atI (x :: y :: l) 1 = some y := atI_nat (j := 1) rfl
theorem a2 {α : Type} {x y z : α} {l : List α} : atI (x :: y :: z :: l) 2 = some z := atI_nat (j := 2) rfl
theorem toB {p : Prop} [Decidable p] (h : decide p = true) : p := of_decide_eq_true h
theorem toNB {p : Prop} [Decidable p] (h : ¬ decide p = true) : ¬ p := fun z => h (decide_eq_true z)
/-- a well: the digits left, a number that is mixed, how many were mixed (at most c) -/
def WellAt (H : Hp) (a : Addr) (c : Int) : Prop := ∃ x y z : Int, H a = some (.lst [.int x, .int y, .int z]) ∧ 0 ≤ y ∧ y < 2147483647 ∧ 0 ≤ z ∧ z ≤ c
theorem WellAt.mono {H : Hp} {a : Addr} {c d : Int} (h : WellAt H a c) (l : c ≤ d) : WellAt H a d := by
  obtain ⟨x, y, z, e, h1, h2, h3, h4⟩ := h
  exact ⟨x, y, z, e, h1, h2, h3, by omega⟩
theorem WellAt.same {H H' : Hp} {a : Addr} {c : Int} (h : WellAt H a c) (s : Same H H') : WellAt H' a c := by
  obtain ⟨x, y, z, e, h1, h2, h3, h4⟩ := h
  exact ⟨x, y, z, s _ _ e, h1, h2, h3, h4⟩
theorem WellAt.but {H H' : Hp} {a b : Addr} {c : Int} (h : WellAt H a c) (s : SameBut b H H') (n : a ≠ b) : WellAt H' a c := by
  obtain ⟨x, y, z, e, h1, h2, h3, h4⟩ := h
  exact ⟨x, y, z, s _ _ n e, h1, h2, h3, h4⟩
/-! ### promises of the law's helpers -/
def spCell (K : PySem.W.Frag) : Sp := fun vs H Q _ => ∃ (a : Addr) (ns : List Int) (k : Nat), vs = [.ref a, .int k] ∧ SqL K H a (ns.map V.int) ∧ Q (.int (ns.getD k 0)) H
def spWell : Sp := fun vs H Q _ => ∃ c : Int, vs = [.int c] ∧ ∀ p : Addr, H p = none → ∀ H', Same H H' → WellAt H' p 0 → Q (.ref p) H'
/-- a number from 0 to below m; the well has at most one more -/
def spDraw : Sp := fun vs H Q _ => ∃ (a : Addr) (c m : Int), vs = [.ref a, .int m] ∧ WellAt H a c ∧ c ≤ 1000000000 ∧ 0 < m ∧ m.natAbs < 2 ^ 9000 ∧
  ∀ (r : Int) (H' : Hp), 0 ≤ r → r < m → SameBut a H H' → (∀ b, H b = none → H' b = none) → WellAt H' a (c + 1) → Q (.int r) H'
def topS (i : Nat) : Stmt := PySem.Challenge.pw_echobound_k07_bits.main.body.getD i (.Pass ⟨0, 0, 0, 0⟩)
abbrev s__wall : Stmt := topS 0
abbrev s_is_whole : Stmt := topS 8
abbrev s_downward : Stmt := topS 10
abbrev s_upward : Stmt := topS 11
abbrev s_inward : Stmt := topS 12
abbrev s_outward : Stmt := topS 13
abbrev s_nearest_greater : Stmt := topS 14
abbrev s_nearest_even : Stmt := topS 15
abbrev s_nearest_far : Stmt := topS 16
abbrev s_is_manner : Stmt := topS 18
abbrev s_is_width : Stmt := topS 24
abbrev s_is_point : Stmt := topS 25
abbrev s_is_ends : Stmt := topS 26
abbrev s__law_cell_at : Stmt := topS 29
abbrev s__law_well : Stmt := topS 30
abbrev s__law_draw : Stmt := topS 31
abbrev s__law_bits : Stmt := topS 32
abbrev s__law_refused : Stmt := topS 33
abbrev s__law_spoiled : Stmt := topS 34
abbrev s_law : Stmt := topS 35
section
variable {P : Program} {w : World} {K : PySem.W.Frag} {mg : Str → Option Value} {base : Heap}
theorem sc__law_cell_at : FnScope ["_law_script", "_law_k"] ["_law_script", "_law_k"] (defScope s__law_cell_at) := ⟨rfl, rfl, rfl, by decide +kernel, rfl, by decide +kernel, by decide +kernel⟩
theorem sc__law_well : FnScope ["_law_cell"] ["_law_cell"] (defScope s__law_well) := ⟨rfl, rfl, rfl, by decide +kernel, rfl, by decide +kernel, by decide +kernel⟩
theorem sc__law_draw : FnScope ["_law_well_here", "_law_many", "_law_found", "_law_number"] ["_law_well_here", "_law_many"] (defScope s__law_draw) := ⟨rfl, rfl, rfl, by decide +kernel, rfl, by decide +kernel, by decide +kernel⟩
theorem ok_cell {f : Addr} {fd : FuncData} {k : Nat} (F : Fun K "_law_cell_at" "_law_cell_at" s__law_cell_at f fd) (zl : mg "len" = none) : FnOk P w K mg base CX0 (k + 1) f fd ["_law_script", "_law_k"] (spCell K) := by
  refine F.ok sc__law_cell_at (fun vs H Q E h => ?_) (fun cdv A outer s H vs Q E hr h => ?_)
  · obtain ⟨a, ns, k, rfl, _⟩ := h
    rfl
  · obtain ⟨a, ns, k, rfl, hS, q⟩ := h
    refine ⟨_, (pss_cons (ps_if (pt_cmpR op_lt (pv 1) (pe_callB call_len_seq (by rfl) zl PySem.boot_len (pa_cons (pv 0) pa_nil)) (nomark _)) (pss_one (ps_ret (pe_ix ix_list (pv 0) (pv 1) (fun _ _ => rfl)))) pss_nil)
      (pss_one (ps_ret pe_int))), ?_⟩
    refine ⟨_, rfl, _, rfl, a, _, rfl, .inl hS, _, _, rfl, rfl, _, rfl, ite2 (fun c => ?_) (fun c => ?_)⟩
    · have hk : k < ns.length := by
        have := toB c
        rw [List.length_map] at this
        omega
      refine ⟨_, rfl, _, rfl, a, _, k, .int (ns.getD k 0), rfl, rfl, hS, atI_nat ?_, q⟩
      rw [List.getElem?_map, List.getElem?_eq_getElem hk, List.getD_eq_getElem?_getD, List.getElem?_eq_getElem hk]
      rfl
    · have hk : ¬ k < ns.length := fun z => by
        have := toNB c
        rw [List.length_map] at this
        omega
      have e : ns.getD k 0 = 0 := by
        rw [List.getD_eq_getElem?_getD, List.getElem?_eq_none (by omega)]
        rfl
      rw [e] at q
      exact q
theorem ok_well {f : Addr} {fd : FuncData} {k : Nat} (F : Fun K "_law_well" "_law_well" s__law_well f fd) (zi : mg "int" = none) : FnOk P w K mg base CX0 (k + 1) f fd ["_law_cell"] spWell := by
  refine F.ok sc__law_well (fun vs H Q E h => ?_) (fun cdv A outer s H vs Q E hr h => ?_)
  · obtain ⟨c, rfl, _⟩ := h
    rfl
  · obtain ⟨c, rfl, q⟩ := h
    refine ⟨_, (pss_one (ps_ret (pe_lst (pa_cons (pe_op op_mul (pv 0) (pe_callTy call_int1 (by rfl) zi (by decide +kernel) (pa_cons (pe_cmpR op_ge (pv 0) (pe_op op_pow pe_int pe_int) (nomark _)) pa_nil))) (pa_cons (pe_op op_mod (pv 0) pe_int) (pa_cons pe_int pa_nil)))))), ?_⟩
    refine ⟨_, rfl, _, rfl, _, _, rfl, rfl, ⟨by decide, by decide, by decide⟩, _, _, rfl, rfl, .inr ⟨_, rfl, _, _, rfl, rfl, .inr ?_, ?_⟩⟩
    · split <;> decide
    · refine ⟨_, rfl, _, _, rfl, rfl, (by show (0 : Int) < 2147483647; decide), (by show 3 ≤ sizeLine; decide), fun p hp => ?_⟩
      exact q p hp _ (same_new hp) ⟨_, _, _, upd_same, Int.emod_nonneg _ (by decide), Int.emod_lt_of_pos _ (by decide), Int.le_refl _, Int.le_refl _⟩
theorem ok_draw {f : Addr} {fd : FuncData} {k : Nat} (F : Fun K "_law_draw" "_law_draw" s__law_draw f fd) : FnOk P w K mg base CX0 (k + 1) f fd ["_law_well_here", "_law_many"] spDraw := by
  refine F.ok sc__law_draw (fun vs H Q E h => ?_) (fun cdv A outer s H vs Q E hr h => ?_)
  · obtain ⟨a, c, m, rfl, _⟩ := h
    rfl
  · obtain ⟨a, c, m, rfl, ⟨x, y, z, hw, y0, y1, z0, z1⟩, hc, m0, m1, q⟩ := h
    have fr : ∀ o b, H b = none → (upd H a o) b = none := fun o b hb => by
      rw [upd_ne (fun e => by rw [e, hw] at hb; cases hb)]
      exact hb
    refine ⟨_, (pss_cons (ps_if (pt_cmpR op_gt (pe_ix ix_list (pv 0) pe_int (fun _ _ => rfl)) pe_int (nomark _)) (pss_cons (ps_set (i := 2) sc__law_draw.nd rfl (.inl rfl) (pe_op op_mod (pe_ix ix_list (pv 0) pe_int (fun _ _ => rfl)) (pv 1)))
      (pss_cons (ps_asg (pe_op op_fdivW (pe_ix ix_list (pv 0) pe_int (fun _ _ => rfl)) (pv 1)) (pg_sub (pv 0) pe_int set_list))
      (pss_one (ps_ret (pv 2))))) pss_nil)
      (pss_cons (ps_asg (pe_op op_add (pe_ix ix_list (pv 0) pe_int (fun _ _ => rfl)) pe_int) (pg_sub (pv 0) pe_int set_list))
      (pss_cons (ps_set (i := 3) sc__law_draw.nd rfl (.inl rfl) (pe_op op_mod (pe_op op_pow (pe_op op_add (pe_op op_add (pe_ix ix_list (pv 0) pe_int (fun _ _ => rfl)) (pe_op op_mul pe_int (pe_ix ix_list (pv 0) pe_int (fun _ _ => rfl)))) pe_int) pe_int) pe_int))
      (pss_cons (ps_set (i := 3) sc__law_draw.nd rfl (.inl rfl) (pe_op op_mod (pe_op op_mul (pv 3) (pe_op op_add (pe_op op_fdiv (pv 3) pe_int) pe_int)) pe_int))
      (pss_one (ps_ret (pe_op op_mod (pe_op op_mod (pe_op op_mul (pv 3) (pe_op op_add (pe_op op_fdiv (pv 3) pe_int) pe_int)) pe_int) (pv 1)))))))), ?_⟩
    refine ⟨_, rfl, a, _, 0, .int x, rfl, rfl, SqL.of hw, a0, x, 0, rfl, rfl, _, rfl, ite2 (fun c => ?_) (fun c => ?_)⟩
    · refine ⟨_, rfl, a, _, 0, .int x, rfl, rfl, SqL.of hw, a0, _, rfl, x, m, rfl, rfl, m0, ?_⟩
      refine ⟨_, rfl, a, _, 0, .int x, rfl, rfl, SqL.of hw, a0, _, rfl, x, m, rfl, rfl, wide_div m0 m1 (by decide) (Nat.le_refl _), _, rfl, a, _, 0, 0, rfl, rfl, hw, rfl, ?_⟩
      refine ⟨_, rfl, q _ _ (Int.emod_nonneg _ (by omega)) (Int.emod_lt_of_pos _ m0) SameBut.upd (fr _) ⟨_, _, _, upd_same, y0, y1, z0, by omega⟩⟩
    · refine ⟨_, rfl, a, _, 2, .int z, rfl, rfl, SqL.of hw, a2, z, 1, rfl, rfl, _, rfl, a, _, 2, 2, rfl, rfl, hw, rfl, ?_⟩
      have hw2 : (upd H a (.lst [V.int x, V.int y, V.int (z + 1)])) a = some (.lst [V.int x, V.int y, V.int (z + 1)]) := upd_same
      have n5 : 0 ≤ y + 7919 * (z + 1) + 1 ∧ y + 7919 * (z + 1) + 1 < 18446744073709551616 := by omega
      refine ⟨_, rfl, a, _, 1, .int y, rfl, rfl, SqL.of hw2, a1, _, rfl, a, _, 2, .int (z + 1), rfl, rfl, SqL.of hw2, a2, _, _, rfl, rfl, .inl ⟨by decide, by decide⟩, _, _, rfl, rfl, _, _, rfl, rfl, _, _, rfl, rfl, ⟨by decide, by decide, ?_⟩, _, _, rfl, rfl, (by show (0 : Int) < 2147483647; decide), ?_⟩
      · show (y + 7919 * (z + 1) + 1).natAbs < 18446744073709551616
        omega
      · generalize hn : (y + 7919 * (z + 1) + 1) ^ (5 : Int).toNat % 2147483647 = n
        have n0 : 0 ≤ n := by rw [← hn]; exact Int.emod_nonneg _ (by decide)
        have n1 : n < 2147483647 := by rw [← hn]; exact Int.emod_lt_of_pos _ (by decide)
        refine ⟨_, rfl, _, rfl, _, _, rfl, rfl, ⟨by decide, by decide⟩, _, _, rfl, rfl, _, _, rfl, rfl, .inl ⟨by omega, by omega⟩, _, _, rfl, rfl, (by show (0 : Int) < 2147483629; decide), ?_⟩
        generalize hm : n * (n / 1009 + 69621) % 2147483629 = u
        have u0 : 0 ≤ u := by rw [← hm]; exact Int.emod_nonneg _ (by decide)
        have u1 : u < 2147483629 := by rw [← hm]; exact Int.emod_lt_of_pos _ (by decide)
        refine ⟨_, rfl, _, rfl, _, _, rfl, rfl, ⟨by decide, by decide⟩, _, _, rfl, rfl, _, _, rfl, rfl, .inl ⟨by omega, by omega⟩, _, _, rfl, rfl, (by show (0 : Int) < 2147483587; decide), _, rfl, _, _, rfl, rfl, m0, ?_⟩
        exact q _ _ (Int.emod_nonneg _ (by omega)) (Int.emod_lt_of_pos _ m0) SameBut.upd (fr _) ⟨_, _, _, upd_same, y0, y1, by omega, by omega⟩
end
end E1

namespace E1
open PySem PySem.Spec PyProof.Rows L2

def CalD (P : Program) (w : World) (K : PySem.W.Frag) (mg : Str → Option Value) (base : Heap) (k : Nat) (x : Str) (ps : List Str) (dvs : List V) (sp : Sp) : Prop :=
  ∃ (f : Addr) (fd : FuncData) (ds : List Value), mg x = some (.ref f) ∧ PySem.W.keepIn K (.ref f) = true ∧ Vals dvs ds ∧ Binds K fd ps ds ∧ FnOk P w K mg base CX0 k f fd ps sp
theorem pe_cald {X : Cx} {k j : Nat} {x : Str} {ps : List Str} {dvs : List V} {sp : Sp} {e : Expr} {es : List Expr} {t : TA} {p pos : Pos} (c : CalD X.prog X.w X.K X.mg X.base k x ps dvs sp) (hr : Room j X.A) (ha : PA X (e :: es) t) (hle : k ≤ j := by decide) (hg : Gl X x := by rfl)
    (hdb : (x == ("__debug__" : Str)) = false := by decide) (he : starEach (e :: es) X.env = (false, eval e X.env) :: starEach es X.env := by rfl) (hpl : (backTo pos (starEach es X.env)).any (·.1) = false := by rfl) :
    PE X (.Call (.Name x p) (e :: es) [] pos) (tCall sp dvs E0 t) := by
  obtain ⟨f, fd, ds, h1, h2, hd, h3, h4⟩ := c
  exact pe_call h4 (hr.mono hle) hg h1 h2 h3 hd pass0 ha hdb he hpl
def CalK (P : Program) (w : World) (K : PySem.W.Frag) (mg : Str → Option Value) (base : Heap) (k : Nat) (x : Str) (ps : List Str) (n : Nat) (ks : List Str) (gV : List V → List V → List V) (sp : Sp) : Prop :=
  ∃ (f : Addr) (fd : FuncData) (g : List Value → List Value → List Value), mg x = some (.ref f) ∧ PySem.W.keepIn K (.ref f) = true ∧ KBn K fd ps n ks g gV ∧ FnOk P w K mg base CX0 k f fd ps sp
theorem pe_calk {X : Cx} {k j n : Nat} {x : Str} {ps ks : List Str} {gV : List V → List V → List V} {sp : Sp} {e : Expr} {es : List Expr} {kws : List Keyword} {t tk : TA} {p pos : Pos} (c : CalK X.prog X.w X.K X.mg X.base k x ps n ks gV sp) (hr : Room j X.A)
    (ha : PA X (e :: es) t) (hkw : PK X kws tk) (hle : k ≤ j := by decide) (hg : Gl X x := by rfl) (hall : (backToKw pos (keywordEach kws X.env)).all (·.1.isSome) = true := by rfl) (hks : (backToKw pos (keywordEach kws X.env)).filterMap (·.1) = ks := by rfl)
    (hdb : (x == ("__debug__" : Str)) = false := by decide) (he : starEach (e :: es) X.env = (false, eval e X.env) :: starEach es X.env := by rfl)
    (hpl : ((backTo pos (starEach (e :: es) X.env)).any (·.1) || (backToKw pos (keywordEach kws X.env)).any (·.1.isNone)) = false := by rfl) :
    PE X (.Call (.Name x p) (e :: es) kws pos) (tCallN n ks.length sp gV E0 t tk) := by
  obtain ⟨f, fd, g, h1, h2, h3, h4⟩ := c
  exact pe_callN h4 (hr.mono hle) hg h1 h2 h3 pass0 ha hkw hall hks hdb he hpl
theorem pe_calk0 {X : Cx} {k j : Nat} {x : Str} {ps ks : List Str} {gV : List V → List V → List V} {sp : Sp} {kws : List Keyword} {tk : TA} {p pos : Pos} (c : CalK X.prog X.w X.K X.mg X.base k x ps 0 ks gV sp) (hr : Room j X.A)
    (hkw : PK X kws tk) (hle : k ≤ j := by decide) (hg : Gl X x := by rfl) (hall : (backToKw pos (keywordEach kws X.env)).all (·.1.isSome) = true := by rfl) (hks : (backToKw pos (keywordEach kws X.env)).filterMap (·.1) = ks := by rfl)
    (hdb : (x == ("__debug__" : Str)) = false := by decide)
    (hpl : ((backTo pos (starEach [] X.env)).any (·.1) || (backToKw pos (keywordEach kws X.env)).any (·.1.isNone)) = false := by rfl) :
    PE X (.Call (.Name x p) [] kws pos) (tCallN 0 ks.length sp gV E0 tNil tk) := by
  obtain ⟨f, fd, g, h1, h2, h3, h4⟩ := c
  refine ⟨fun pins s σ H Q I h => ?_⟩
  refine wpAny_Call_Name_kw (ld_glob I hg h1 ?_ hdb)
  refine PySem.W.callWith_KW0 (h₀ := X.base) I.ok.mod.kin h2 hall (thn (hkw.run pos pins s σ H _ I h) fun ws s2 ⟨zs, H2, I2, rz, l1, l2, q2⟩ => ⟨I2.kIn, ?_⟩) hpl
  rw [hks]
  exact run_fnN (vs := []) (us := []) h4 (hr.mono hle) h3 pass0 I2 .nil rz l1 l2 q2
/-- a class handed to isinstance -/
theorem isiB {K : PySem.W.Frag} {H : Hp} {x : V} {a b : String} {r : Bool} {Q : VK} (ty : TyX K H x (.type a)) (k : kitB a b = some r) (q : Q (.bl r) H) : rIsi K [x, .ty b] H Q :=
  ⟨x, .ty b, .type a, .type b, r, rfl, .ty _, ty, kit_ty k, q⟩
/-- whether a thing is a whole number -/
def WholeIs (K : PySem.W.Frag) (H : Hp) (x : V) (b : Bool) : Prop := (∃ i, x = .int i ∧ b = true) ∨ (∃ c, x = .bl c ∧ b = false) ∨ (b = false ∧ ∃ t : String, TyX K H x (.type t) ∧ kitB t "int" = some false)
theorem WholeIs.int {K : PySem.W.Frag} {H : Hp} (i : Int) : WholeIs K H (.int i) true := .inl ⟨i, rfl, rfl⟩
def spWhole (K : PySem.W.Frag) : Sp := fun vs H Q _ => ∃ (x : V) (b : Bool), vs = [x] ∧ WholeIs K H x b ∧ Q (.bl b) H
/-! ### the mathematics of fractions in lowest terms -/
def gI (t b : Int) : Int := (Int.gcd t b : Nat)
def lowT (t b : Int) : Int := (if b < 0 then -t else t) / gI t b
def lowB (t b : Int) : Int := (if b < 0 then -b else b) / gI t b
theorem gI_neg (t b : Int) : gI (-t) (-b) = gI t b := by
  unfold gI
  rw [Int.neg_gcd, Int.gcd_neg]
theorem gI_pos {t b : Int} (h : b ≠ 0) : 0 < gI t b := by
  have : 0 < Int.gcd t b := Int.gcd_pos_of_ne_zero_right t h
  unfold gI
  omega
theorem gI_le {t b : Int} (h : b ≠ 0) : (gI t b).natAbs ≤ b.natAbs := by
  have d : Int.gcd t b ∣ b.natAbs := Nat.gcd_dvd_right t.natAbs b.natAbs
  have := Nat.le_of_dvd (by omega) d
  unfold gI
  omega
def spShared : Sp := fun vs H Q _ => ∃ t b : Int, vs = [.int t, .int b] ∧ 0 ≤ b ∧ Q (.int (gI t b)) H
def spLow : Sp := fun vs H Q _ => ∃ t b : Int, vs = [.int t, .int b] ∧ b ≠ 0 ∧ b.natAbs < 2 ^ 4000 ∧ ∀ p, H p = none → Q (.ref p) (upd H p (.tup [.int (lowT t b), .int (lowB t b)]))
/-- two fractions at two places; the tops and bottoms told by f and d -/
def spTwo (K : PySem.W.Frag) (pre : Int → Int → Int → Int → Prop) (f d : Int → Int → Int → Int → Int) : Sp := fun vs H Q _ => ∃ (a c : Addr) (t u v x : Int), vs = [.ref a, .ref c] ∧ SqT K H a [.int t, .int u] ∧ SqT K H c [.int v, .int x] ∧
  pre t u v x ∧ 0 < u ∧ 0 < x ∧ t.natAbs < 2 ^ 1900 ∧ u.natAbs < 2 ^ 1900 ∧ v.natAbs < 2 ^ 1900 ∧ x.natAbs < 2 ^ 1900 ∧ ∀ p, H p = none → Q (.ref p) (upd H p (.tup [.int (lowT (f t u v x) (d t u v x)), .int (lowB (f t u v x) (d t u v x))]))
def spUnder (K : PySem.W.Frag) : Sp := fun vs H Q _ => ∃ (a c : Addr) (t u v x : Int), vs = [.ref a, .ref c] ∧ SqT K H a [.int t, .int u] ∧ SqT K H c [.int v, .int x] ∧
  t.natAbs < 2 ^ 1900 ∧ u.natAbs < 2 ^ 1900 ∧ v.natAbs < 2 ^ 1900 ∧ x.natAbs < 2 ^ 1900 ∧ Q (.bl (decide (t * x < v * u))) H
def absI (t : Int) : Int := if t < 0 then -t else t
def spSize (K : PySem.W.Frag) : Sp := fun vs H Q _ => ∃ (a : Addr) (t u : Int), vs = [.ref a] ∧ SqT K H a [.int t, .int u] ∧ ∀ p, H p = none → Q (.ref p) (upd H p (.tup [.int (absI t), .int u]))
def twoT (m : Int) : Int := if m < 0 then 1 else 2 ^ m.toNat
def twoB (m : Int) : Int := if m < 0 then 2 ^ (-m).toNat else 1
def spTwoTo : Sp := fun vs H Q _ => ∃ m : Int, vs = [.int m] ∧ -400 ≤ m ∧ m ≤ 400 ∧ ∀ p, H p = none → Q (.ref p) (upd H p (.tup [.int (twoT m), .int (twoB m)]))
def spIsFrac : Sp := fun vs H Q _ => ∃ (a : Addr) (t u : Int), vs = [.ref a] ∧ H a = some (.tup [.int t, .int u]) ∧ 1 ≤ u ∧ Q (.bl (decide (gI t u = 1))) H
theorem up {x : Nat} {a b : Nat} (h : x < 2 ^ a) (l : a ≤ b) : x < 2 ^ b := Nat.lt_of_lt_of_le h (Nat.pow_le_pow_right (by decide) l)
theorem up2 {x y : Nat} {a b : Nat} (h : x ≤ y) (h2 : y < 2 ^ a) (l : a ≤ b) : x < 2 ^ b := Nat.lt_of_le_of_lt h (up h2 l)
theorem same_but {H H1 H2 : Hp} {p : Addr} (s : Same H H1) (b : SameBut p H1 H2) (hp : H p = none) : Same H H2 := fun a o e => b a o (ne_of_none e hp) (s a o e)
structure Zs (mg : Str → Option Value) : Prop where
  isinstance : mg "isinstance" = none
  int : mg "int" = none
  bool : mg "bool" = none
  str : mg "str" = none
  abs : mg "abs" = none
  len : mg "len" = none
  all : mg "all" = none
  range : mg "range" = none
section
variable {P : Program} {w : World} {K : PySem.W.Frag} {mg : Str → Option Value} {base : Heap}
theorem sc_is_whole : FnScope ["thing"] ["thing"] (defScope s_is_whole) := ⟨rfl, rfl, rfl, by decide +kernel, rfl, by decide +kernel, by decide +kernel⟩
theorem ok_is_whole {f : Addr} {fd : FuncData} {k : Nat} (F : Fun K "is_whole" "is_whole" s_is_whole f fd) (z : Zs mg) : FnOk P w K mg base CX0 (k + 1) f fd ["thing"] (spWhole K) := by
  refine F.ok sc_is_whole (fun vs H Q E h => ?_) (fun cdv A outer s H vs Q E hr h => ?_)
  · obtain ⟨x, b, rfl, _⟩ := h
    rfl
  · obtain ⟨x, b, rfl, hw, q⟩ := h
    refine ⟨_, (pss_one (ps_ret (pe_and (pe_callB call_isi (by rfl) z.isinstance (by decide +kernel) (pa_cons (pv 0) (pa_cons (pe_bltn (v := .ty "int") (by rfl) z.int (by decide +kernel) rfl) pa_nil))) (pe_one (pe_not (pe_callB call_isi (by rfl) z.isinstance (by decide +kernel) (pa_cons (pv 0) (pa_cons (pe_bltn (v := .ty "bool") (by rfl) z.bool (by decide +kernel) rfl) pa_nil)))))))), ?_⟩
    rcases hw with ⟨i, rfl, rfl⟩ | ⟨c, rfl, rfl⟩ | ⟨rfl, t, ty, kt⟩
    · exact ⟨_, rfl, _, .ty "int", _, _, true, rfl, .ty _, .base (.int i), kit_ty (by decide +kernel), _, rfl, iteT ⟨_, rfl, _, .ty "bool", _, _, false, rfl, .ty _, .base (.int i), kit_ty (by decide +kernel), _, rfl, q⟩⟩
    · exact ⟨_, rfl, _, .ty "int", _, _, true, rfl, .ty _, .base (.bl c), kit_ty (by decide +kernel), _, rfl, iteT ⟨_, rfl, _, .ty "bool", _, _, true, rfl, .ty _, .base (.bl c), kit_ty (by decide +kernel), _, rfl, q⟩⟩
    · exact ⟨_, rfl, _, .ty "int", _, _, false, rfl, .ty _, ty, kit_ty kt, _, rfl, iteF q⟩
end
end E1

namespace E1
open PySem PySem.Spec PyProof.Rows L2
/-! ### the seven manners -/
inductive Mn where
  | down | up | inn | out | half | even | far
def Mn.str : Mn → Str
  | .down => "down"
  | .up => "up"
  | .inn => "in"
  | .out => "out"
  | .half => "half"
  | .even => "even"
  | .far => "far"
def fDown (t b : Int) : Int := t / b
def fUp (t b : Int) : Int := -(-t / b)
def fHalf (t b : Int) : Int := (2 * t + b) / (2 * b)
def fEven (t b : Int) : Int := if 2 * (fHalf t b * b - t) = b ∧ fHalf t b % 2 ≠ 0 then fHalf t b - 1 else fHalf t b
def fFar (t b : Int) : Int := if t > 0 then fHalf t b else -(fHalf (-t) b)
def fIn (t b : Int) : Int := if t > 0 then fDown t b else fUp t b
def fOut (t b : Int) : Int := if t > 0 then fUp t b else fDown t b
def Mn.f : Mn → Int → Int → Int
  | .down => fDown
  | .up => fUp
  | .inn => fIn
  | .out => fOut
  | .half => fHalf
  | .even => fEven
  | .far => fFar
def lawR (m : Mn) (t b : Int) : Int :=
  match m with
  | .down => t / b
  | .up => if t % b = 0 then t / b else t / b + 1
  | .inn => if t % b = 0 then t / b else t / b + (if t < 0 then 1 else 0)
  | .out => if t % b = 0 then t / b else t / b + (if t > 0 then 1 else 0)
  | .half => if 2 * (t % b) < b then t / b else t / b + 1
  | .even => if 2 * (t % b) < b then t / b else if b < 2 * (t % b) then t / b + 1 else t / b + t / b % 2
  | .far => if 2 * (t % b) < b then t / b else if b < 2 * (t % b) then t / b + 1 else t / b + (if t > 0 then 1 else 0)
theorem div_is {t b q : Int} (hb : 0 < b) (h1 : q * b ≤ t) (h2 : t < q * b + b) : t / b = q := by
  have a1 : q ≤ t / b := Int.le_ediv_of_mul_le hb h1
  have a2 : t / b < q + 1 := Int.ediv_lt_of_lt_mul hb (by rw [Int.add_mul, Int.one_mul]; exact h2)
  omega
theorem dm (t : Int) {b : Int} (hb : 0 < b) : t = t / b * b + t % b ∧ 0 ≤ t % b ∧ t % b < b := by
  refine ⟨?_, Int.emod_nonneg _ (by omega), Int.emod_lt_of_pos _ hb⟩
  have := Int.mul_ediv_add_emod t b
  rw [Int.mul_comm] at this
  omega
theorem fUp_is {t b : Int} (hb : 0 < b) : fUp t b = if t % b = 0 then t / b else t / b + 1 := by
  obtain ⟨e, r0, r1⟩ := dm t hb
  unfold fUp
  generalize t / b = q at *
  generalize t % b = r at *
  split
  · rename_i h
    have := div_is (t := -t) (q := -q) hb (by rw [Int.neg_mul]; omega) (by rw [Int.neg_mul]; omega)
    rw [this]
    omega
  · rename_i h
    have := div_is (t := -t) (q := -q - 1) hb (by rw [Int.sub_mul, Int.neg_mul, Int.one_mul]; omega) (by rw [Int.sub_mul, Int.neg_mul, Int.one_mul]; omega)
    rw [this]
    omega
theorem fHalf_is {t b : Int} (hb : 0 < b) : fHalf t b = if 2 * (t % b) < b then t / b else t / b + 1 := by
  obtain ⟨e, r0, r1⟩ := dm t hb
  unfold fHalf
  generalize t / b = q at *
  generalize t % b = r at *
  have e2 : q * (2 * b) = 2 * (q * b) := Int.mul_left_comm q 2 b
  split
  · rename_i h
    exact div_is (by omega) (by rw [e2]; omega) (by rw [e2]; omega)
  · rename_i h
    exact div_is (by omega) (by rw [Int.add_mul, e2, Int.one_mul]; omega) (by rw [Int.add_mul, e2, Int.one_mul]; omega)
theorem fHalf_neg {t b : Int} (hb : 0 < b) : -(fHalf (-t) b) = if b < 2 * (t % b) then t / b + 1 else t / b := by
  obtain ⟨e, r0, r1⟩ := dm t hb
  unfold fHalf
  generalize t / b = q at *
  generalize t % b = r at *
  have e2 : q * (2 * b) = 2 * (q * b) := Int.mul_left_comm q 2 b
  split
  · rename_i h
    have := div_is (t := 2 * -t + b) (b := 2 * b) (q := -q - 1) (by omega) (by rw [Int.sub_mul, Int.neg_mul, e2, Int.one_mul]; omega) (by rw [Int.sub_mul, Int.neg_mul, e2, Int.one_mul]; omega)
    rw [this]
    omega
  · rename_i h
    have := div_is (t := 2 * -t + b) (b := 2 * b) (q := -q) (by omega) (by rw [Int.neg_mul, e2]; omega) (by rw [Int.neg_mul, e2]; omega)
    rw [this]
    omega
theorem fEven_is {t b : Int} (hb : 0 < b) : fEven t b = lawR .even t b := by
  obtain ⟨e, r0, r1⟩ := dm t hb
  unfold fEven
  rw [fHalf_is hb]
  show _ = if 2 * (t % b) < b then t / b else if b < 2 * (t % b) then t / b + 1 else t / b + t / b % 2
  generalize t / b = q at *
  generalize t % b = r at *
  by_cases h : 2 * r < b
  · rw [if_pos h, if_pos h, if_neg (by intro z; omega)]
  · rw [if_neg h, if_neg h, Int.add_mul, Int.one_mul]
    by_cases h2 : b < 2 * r
    · rw [if_pos h2, if_neg (by intro z; omega)]
    · rw [if_neg h2]
      by_cases h3 : (q + 1) % 2 ≠ 0
      · rw [if_pos ⟨by omega, h3⟩]
        omega
      · rw [if_neg (fun z => h3 z.2)]
        omega
theorem f_lawR (m : Mn) {t b : Int} (hb : 0 < b) : m.f t b = lawR m t b := by
  obtain ⟨e, r0, r1⟩ := dm t hb
  cases m with
  | down => rfl
  | up => exact fUp_is hb
  | inn =>
    show fIn t b = if t % b = 0 then t / b else t / b + (if t < 0 then 1 else 0)
    unfold fIn fDown
    rw [fUp_is hb]
    by_cases h : t > 0
    · rw [if_pos h, if_neg (show ¬ t < 0 by omega)]
      split <;> omega
    · rw [if_neg h]
      by_cases h2 : t < 0
      · rw [if_pos h2]
      · have h3 : t = 0 := by omega
        rw [if_neg h2, h3]
        simp
  | out =>
    show fOut t b = if t % b = 0 then t / b else t / b + (if t > 0 then 1 else 0)
    unfold fOut fDown
    rw [fUp_is hb]
    by_cases h : t > 0
    · rw [if_pos h, if_pos h]
    · rw [if_neg h, if_neg h]
      split <;> omega
  | half => exact fHalf_is hb
  | even => exact fEven_is hb
  | far =>
    show fFar t b = if 2 * (t % b) < b then t / b else if b < 2 * (t % b) then t / b + 1 else t / b + (if t > 0 then 1 else 0)
    unfold fFar
    rw [fHalf_is hb, fHalf_neg hb]
    by_cases h : t > 0
    · rw [if_pos h, if_pos h]
      split
      · rfl
      · split <;> rfl
    · rw [if_neg h, if_neg h]
      by_cases h2 : 2 * (t % b) < b
      · rw [if_pos h2, if_neg (show ¬ b < 2 * (t % b) by omega)]
      · rw [if_neg h2]
        split <;> omega
theorem lt_g {x y g : Int} (hg : 0 < g) : x * g < y * g ↔ x < y := ⟨fun h => Int.lt_of_mul_lt_mul_right h (Int.le_of_lt hg), fun h => Int.mul_lt_mul_of_pos_right h hg⟩
theorem lawR_mul (m : Mn) {t b g : Int} (hb : 0 < b) (hg : 0 < g) : lawR m (t * g) (b * g) = lawR m t b := by
  have e1 : t * g / (b * g) = t / b := Int.mul_ediv_mul_of_pos_left _ _ hg
  have e2 : t * g % (b * g) = t % b * g := by
    rw [Int.mul_comm t g, Int.mul_comm b g, Int.mul_emod_mul_of_pos _ _ hg, Int.mul_comm]
  have c0 : t % b * g = 0 ↔ t % b = 0 := by
    constructor
    · intro h
      rcases Int.mul_eq_zero.mp h with h | h
      · exact h
      · omega
    · intro h
      rw [h, Int.zero_mul]
  have c1 : t * g < 0 ↔ t < 0 := by
    have := lt_g (x := t) (y := 0) hg
    rw [Int.zero_mul] at this
    exact this
  have c2 : t * g > 0 ↔ t > 0 := by
    have := lt_g (x := 0) (y := t) hg
    rw [Int.zero_mul] at this
    exact this
  have c3 : 2 * (t % b * g) < b * g ↔ 2 * (t % b) < b := by
    rw [← Int.mul_assoc]
    exact lt_g hg
  have c4 : b * g < 2 * (t % b * g) ↔ b < 2 * (t % b) := by
    rw [← Int.mul_assoc]
    exact lt_g hg
  cases m <;> simp only [lawR, e1, e2, c0, c1, c2, c3, c4]
theorem lawR_eq (m : Mn) {t b x y : Int} (hb : 0 < b) (hy : 0 < y) (h : x * b = t * y) : lawR m x y = lawR m t b := by
  rw [← lawR_mul m hy hb, h, Int.mul_comm y b, lawR_mul m hb hy]
/-- how far off -/
theorem lawR_off (m : Mn) {t b : Int} (hb : 0 < b) : -b ≤ lawR m t b * b - t ∧ lawR m t b * b - t ≤ b := by
  obtain ⟨e, r0, r1⟩ := dm t hb
  have key : ∀ q' : Int, (q' = t / b ∨ q' = t / b + 1) → -b ≤ q' * b - t ∧ q' * b - t ≤ b := fun q' h => by
    generalize t / b = q at *
    generalize t % b = r at *
    rcases h with rfl | rfl
    · omega
    · rw [Int.add_mul, Int.one_mul]
      omega
  refine key _ ?_
  clear key
  cases m <;> simp only [lawR] <;> (generalize t / b = q at *) <;> (repeat' split) <;> (first | omega | exact .inl trivial)
theorem lawR_near {m : Mn} {t b : Int} (hb : 0 < b) (hm : m = .half ∨ m = .even ∨ m = .far) : -b ≤ 2 * (lawR m t b * b - t) ∧ 2 * (lawR m t b * b - t) ≤ b := by
  obtain ⟨e, r0, r1⟩ := dm t hb
  have key : ∀ q' : Int, ((q' = t / b ∧ 2 * (t % b) ≤ b) ∨ (q' = t / b + 1 ∧ b ≤ 2 * (t % b))) → -b ≤ 2 * (q' * b - t) ∧ 2 * (q' * b - t) ≤ b := fun q' h => by
    generalize t / b = q at *
    generalize t % b = r at *
    rcases h with ⟨rfl, h⟩ | ⟨rfl, h⟩
    · omega
    · rw [Int.add_mul, Int.one_mul]
      omega
  refine key _ ?_
  clear key
  rcases hm with rfl | rfl | rfl <;> simp only [lawR] <;> (generalize t / b = q at *) <;> (repeat' split) <;> omega

def spRnd (g : Int → Int → Int) : Sp := fun vs H Q _ => ∃ t b : Int, vs = [.int t, .int b] ∧ 0 < b ∧ t.natAbs < 2 ^ 4000 ∧ b.natAbs < 2 ^ 4000 ∧ Q (.int (g t b)) H
structure Mans (P : Program) (w : World) (K : PySem.W.Frag) (mg : Str → Option Value) (base : Heap) (dM : Addr) (es : Array DictEntry) (n : Nat) : Prop where
  gm : mg "MANNERS" = some (.ref dM)
  D : KDict K w dM es n
  at_ : ∀ m : Mn, ∃ (f : Addr) (fd : FuncData), PySem.W.nsIn K dM m.str = some (some (.ref f)) ∧ PySem.W.keepIn K (.ref f) = true ∧ Binds K fd ["top", "bottom"] [] ∧ FnOk P w K mg base CX0 2 f fd ["top", "bottom"] (spRnd m.f)
/-- whether a thing is a manner -/
def MannerIs (K : PySem.W.Frag) (H : Hp) (dM : Addr) (x : V) (b : Bool) : Prop := (∃ m : Mn, x = .str m.str ∧ b = true) ∨ (∃ z : Str, x = .str z ∧ PySem.W.nsIn K dM z = some none ∧ b = false) ∨ (b = false ∧ ∃ t : String, TyX K H x (.type t) ∧ kitB t "str" = some false)
def spManner (K : PySem.W.Frag) (dM : Addr) : Sp := fun vs H Q _ => ∃ (x : V) (b : Bool), vs = [x] ∧ MannerIs K H dM x b ∧ Q (.bl b) H
def spRounded (K : PySem.W.Frag) : Sp := fun vs H Q _ => ∃ (a : Addr) (m : Mn) (t b : Int), vs = [.ref a, .str m.str] ∧ SqT K H a [.int t, .int b] ∧ 0 < b ∧ t.natAbs < 2 ^ 4000 ∧ b.natAbs < 2 ^ 4000 ∧ Q (.int (m.f t b)) H
theorem two_b {b : Int} (h : b.natAbs < 2 ^ 4000) : (2 * b).natAbs < 2 ^ 4001 := by
  rw [Int.natAbs_mul, Nat.pow_succ, Nat.mul_comm]
  exact Nat.mul_lt_mul_of_pos_right h (by decide)
theorem half_le {t b : Int} (ht : t.natAbs < 2 ^ 4000) (hb : b.natAbs < 2 ^ 4000) : (fHalf t b).natAbs < 2 ^ 4003 := by
  unfold fHalf
  refine Nat.lt_of_le_of_lt (Int.natAbs_ediv_le_natAbs _ _) ?_
  have h1 : (2 * t + b).natAbs ≤ 2 * t.natAbs + b.natAbs := by omega
  have e : 2 ^ 4003 = 2 ^ 4000 * 8 := Nat.pow_add 2 4000 3
  rw [e]
  generalize 2 ^ 4000 = N at *
  omega
section
variable {P : Program} {w : World} {K : PySem.W.Frag} {mg : Str → Option Value} {base : Heap}
theorem sc_downward : FnScope ["top", "bottom"] ["top", "bottom"] (defScope s_downward) := ⟨rfl, rfl, rfl, by decide +kernel, rfl, by decide +kernel, by decide +kernel⟩
theorem ok_downward {f : Addr} {fd : FuncData} {k : Nat} (F : Fun K "downward" "downward" s_downward f fd) : FnOk P w K mg base CX0 (k + 1) f fd ["top", "bottom"] (spRnd fDown) := by
  refine F.ok sc_downward (fun vs H Q E h => ?_) (fun cdv A outer s H vs Q E hr h => ?_)
  · obtain ⟨t, b, rfl, _⟩ := h
    rfl
  · obtain ⟨t, b, rfl, hb, ht, hl, q⟩ := h
    refine ⟨_, (pss_one (ps_ret (pe_op op_fdivW (pv 0) (pv 1)))), ?_⟩
    exact ⟨_, rfl, _, rfl, _, _, rfl, rfl, wide_div hb hl (by decide) (by decide), q⟩
theorem sc_upward : FnScope ["top", "bottom"] ["top", "bottom"] (defScope s_upward) := ⟨rfl, rfl, rfl, by decide +kernel, rfl, by decide +kernel, by decide +kernel⟩
theorem ok_upward {f : Addr} {fd : FuncData} {k : Nat} (F : Fun K "upward" "upward" s_upward f fd) : FnOk P w K mg base CX0 (k + 1) f fd ["top", "bottom"] (spRnd fUp) := by
  refine F.ok sc_upward (fun vs H Q E h => ?_) (fun cdv A outer s H vs Q E hr h => ?_)
  · obtain ⟨t, b, rfl, _⟩ := h
    rfl
  · obtain ⟨t, b, rfl, hb, ht, hl, q⟩ := h
    refine ⟨_, (pss_one (ps_ret (pe_un un_neg (pe_op op_fdivW (pe_un un_neg (pv 0)) (pv 1))))), ?_⟩
    exact ⟨_, rfl, _, rfl, _, rfl, _, _, rfl, rfl, wide_div hb hl (by decide) (by decide), _, rfl, q⟩
theorem sc_inward : FnScope ["top", "bottom"] ["top", "bottom"] (defScope s_inward) := ⟨rfl, rfl, rfl, by decide +kernel, rfl, by decide +kernel, by decide +kernel⟩
theorem ok_inward {f : Addr} {fd : FuncData} (F : Fun K "inward" "inward" s_inward f fd) (c_downward : Cal P w K mg base 1 "downward" ["top", "bottom"] (spRnd fDown)) (c_upward : Cal P w K mg base 1 "upward" ["top", "bottom"] (spRnd fUp)) : FnOk P w K mg base CX0 2 f fd ["top", "bottom"] (spRnd fIn) := by
  refine F.ok sc_inward (fun vs H Q E h => ?_) (fun cdv A outer s H vs Q E hr h => ?_)
  · obtain ⟨t, b, rfl, _⟩ := h
    rfl
  · obtain ⟨t, b, rfl, hb, ht, hl, q⟩ := h
    refine ⟨_, (pss_one (ps_ret (pe_ifExp (pt_cmpR op_gt (pv 0) pe_int (nomark _)) (pe_cal c_downward hr (pa_cons (pv 0) (pa_cons (pv 1) pa_nil))) (pe_cal c_upward hr (pa_cons (pv 0) (pa_cons (pv 1) pa_nil)))))), ?_⟩
    refine ⟨_, rfl, _, _, rfl, rfl, _, rfl, ite2 (fun c => ?_) (fun c => ?_)⟩
    · refine ⟨_, rfl, _, rfl, t, b, rfl, hb, ht, hl, ?_⟩
      have hc : t > 0 := toB c
      unfold fIn at q
      rw [if_pos hc] at q
      exact q
    · refine ⟨_, rfl, _, rfl, t, b, rfl, hb, ht, hl, ?_⟩
      have hc : ¬ t > 0 := toNB c
      unfold fIn at q
      rw [if_neg hc] at q
      exact q
theorem sc_outward : FnScope ["top", "bottom"] ["top", "bottom"] (defScope s_outward) := ⟨rfl, rfl, rfl, by decide +kernel, rfl, by decide +kernel, by decide +kernel⟩
theorem ok_outward {f : Addr} {fd : FuncData} (F : Fun K "outward" "outward" s_outward f fd) (c_downward : Cal P w K mg base 1 "downward" ["top", "bottom"] (spRnd fDown)) (c_upward : Cal P w K mg base 1 "upward" ["top", "bottom"] (spRnd fUp)) : FnOk P w K mg base CX0 2 f fd ["top", "bottom"] (spRnd fOut) := by
  refine F.ok sc_outward (fun vs H Q E h => ?_) (fun cdv A outer s H vs Q E hr h => ?_)
  · obtain ⟨t, b, rfl, _⟩ := h
    rfl
  · obtain ⟨t, b, rfl, hb, ht, hl, q⟩ := h
    refine ⟨_, (pss_one (ps_ret (pe_ifExp (pt_cmpR op_gt (pv 0) pe_int (nomark _)) (pe_cal c_upward hr (pa_cons (pv 0) (pa_cons (pv 1) pa_nil))) (pe_cal c_downward hr (pa_cons (pv 0) (pa_cons (pv 1) pa_nil)))))), ?_⟩
    refine ⟨_, rfl, _, _, rfl, rfl, _, rfl, ite2 (fun c => ?_) (fun c => ?_)⟩
    · refine ⟨_, rfl, _, rfl, t, b, rfl, hb, ht, hl, ?_⟩
      have hc : t > 0 := toB c
      unfold fOut at q
      rw [if_pos hc] at q
      exact q
    · refine ⟨_, rfl, _, rfl, t, b, rfl, hb, ht, hl, ?_⟩
      have hc : ¬ t > 0 := toNB c
      unfold fOut at q
      rw [if_neg hc] at q
      exact q
theorem sc_nearest_greater : FnScope ["top", "bottom"] ["top", "bottom"] (defScope s_nearest_greater) := ⟨rfl, rfl, rfl, by decide +kernel, rfl, by decide +kernel, by decide +kernel⟩
theorem ok_nearest_greater {f : Addr} {fd : FuncData} {k : Nat} (F : Fun K "nearest_greater" "nearest_greater" s_nearest_greater f fd) : FnOk P w K mg base CX0 (k + 1) f fd ["top", "bottom"] (spRnd fHalf) := by
  refine F.ok sc_nearest_greater (fun vs H Q E h => ?_) (fun cdv A outer s H vs Q E hr h => ?_)
  · obtain ⟨t, b, rfl, _⟩ := h
    rfl
  · obtain ⟨t, b, rfl, hb, ht, hl, q⟩ := h
    refine ⟨_, (pss_one (ps_ret (pe_op op_fdivW (pe_op op_add (pe_op op_mul pe_int (pv 0)) (pv 1)) (pe_op op_mul pe_int (pv 1))))), ?_⟩
    exact ⟨_, rfl, _, _, rfl, rfl, .inl ⟨by decide, by decide⟩, _, rfl, _, _, rfl, rfl, _, rfl, _, _, rfl, rfl, .inl ⟨by decide, by decide⟩, _, _, rfl, rfl, wide_div (by omega) (two_b hl) (by decide) (by decide), q⟩
theorem sc_nearest_even : FnScope ["top", "bottom", "near", "halfway"] ["top", "bottom"] (defScope s_nearest_even) := ⟨rfl, rfl, rfl, by decide +kernel, rfl, by decide +kernel, by decide +kernel⟩
theorem ok_nearest_even {f : Addr} {fd : FuncData} (F : Fun K "nearest_even" "nearest_even" s_nearest_even f fd) (c_nearest_greater : Cal P w K mg base 1 "nearest_greater" ["top", "bottom"] (spRnd fHalf)) : FnOk P w K mg base CX0 2 f fd ["top", "bottom"] (spRnd fEven) := by
  refine F.ok sc_nearest_even (fun vs H Q E h => ?_) (fun cdv A outer s H vs Q E hr h => ?_)
  · obtain ⟨t, b, rfl, _⟩ := h
    rfl
  · obtain ⟨t, b, rfl, hb, ht, hl, q⟩ := h
    have hn := half_le ht hl
    refine ⟨_, (pss_cons (ps_set (i := 2) sc_nearest_even.nd rfl (.inl rfl) (pe_cal c_nearest_greater hr (pa_cons (pv 0) (pa_cons (pv 1) pa_nil))))
      (pss_cons (ps_set (i := 3) sc_nearest_even.nd rfl (.inl rfl) (pe_cmpR op_eq (pe_op op_mul pe_int (pe_op op_sub (pe_op op_mulW (pv 2) (pv 1)) (pv 0))) (pv 1) (nomark _)))
      (pss_one (ps_ret (pe_ifExp (PW.pt (pw_and (pt_val (pv 3)) (pw_and1 (pt_truth (pe_op op_and (pv 2) pe_int) (by intro _; rfl))))) (pe_op op_sub (pv 2) pe_int) (pv 2)))))), ?_⟩
    refine ⟨_, rfl, _, rfl, t, b, rfl, hb, ht, hl, ?_⟩
    unfold fEven at q
    generalize fHalf t b = n at *
    refine ⟨_, rfl, _, rfl, _, _, rfl, rfl, wide_mul hn hl (by decide) (by decide) (by decide), _, rfl, _, _, rfl, rfl, _, _, rfl, rfl, .inl ⟨by decide, by decide⟩, _, rfl, rfl, ?_⟩
    have eB : (decide (V.int (2 * (n * b - t)) = V.int b)) = decide (2 * (n * b - t) = b) := by
      by_cases h : 2 * (n * b - t) = b
      · rw [h, decide_eq_true rfl, decide_eq_true rfl]
      · rw [decide_eq_false h, decide_eq_false (fun z => h (V.int.inj z))]
    rw [eB]
    by_cases hc : 2 * (n * b - t) = b
    · rw [decide_eq_true hc]
      refine ⟨_, rfl, _, rfl, iteT ⟨_, rfl, _, _, rfl, rfl, _, rfl, ?_⟩⟩
      rw [PyProof.Rows.bitAnd_m1]
      by_cases h2 : n % 2 ≠ 0
      · have e : (n % 2 != 0) = true := by
          rw [bne_iff_ne]
          exact h2
        rw [e]
        rw [if_pos ⟨hc, h2⟩] at q
        exact iteT ⟨_, rfl, _, _, rfl, rfl, q⟩
      · have e : (n % 2 != 0) = false := by
          have : n % 2 = 0 := by omega
          rw [this]
          rfl
        rw [e]
        rw [if_neg (fun z => h2 z.2)] at q
        exact iteF ⟨_, rfl, q⟩
    · rw [decide_eq_false hc]
      rw [if_neg (fun z => hc z.1)] at q
      exact ⟨_, rfl, _, rfl, iteF (iteF ⟨_, rfl, q⟩)⟩
theorem sc_nearest_far : FnScope ["top", "bottom"] ["top", "bottom"] (defScope s_nearest_far) := ⟨rfl, rfl, rfl, by decide +kernel, rfl, by decide +kernel, by decide +kernel⟩
theorem ok_nearest_far {f : Addr} {fd : FuncData} (F : Fun K "nearest_far" "nearest_far" s_nearest_far f fd) (c_nearest_greater : Cal P w K mg base 1 "nearest_greater" ["top", "bottom"] (spRnd fHalf)) : FnOk P w K mg base CX0 2 f fd ["top", "bottom"] (spRnd fFar) := by
  refine F.ok sc_nearest_far (fun vs H Q E h => ?_) (fun cdv A outer s H vs Q E hr h => ?_)
  · obtain ⟨t, b, rfl, _⟩ := h
    rfl
  · obtain ⟨t, b, rfl, hb, ht, hl, q⟩ := h
    refine ⟨_, (pss_one (ps_ret (pe_ifExp (pt_cmpR op_gt (pv 0) pe_int (nomark _)) (pe_cal c_nearest_greater hr (pa_cons (pv 0) (pa_cons (pv 1) pa_nil))) (pe_un un_neg (pe_cal c_nearest_greater hr (pa_cons (pe_un un_neg (pv 0)) (pa_cons (pv 1) pa_nil))))))), ?_⟩
    refine ⟨_, rfl, _, _, rfl, rfl, _, rfl, ite2 (fun c => ?_) (fun c => ?_)⟩
    · refine ⟨_, rfl, _, rfl, t, b, rfl, hb, ht, hl, ?_⟩
      have hc : t > 0 := toB c
      unfold fFar at q
      rw [if_pos hc] at q
      exact q
    · refine ⟨_, rfl, _, rfl, _, rfl, -t, b, rfl, hb, by rw [Int.natAbs_neg]; exact ht, hl, _, rfl, ?_⟩
      have hc : ¬ t > 0 := toNB c
      unfold fFar at q
      rw [if_neg hc] at q
      exact q
theorem sc_is_manner : FnScope ["thing"] ["thing"] (defScope s_is_manner) := ⟨rfl, rfl, rfl, by decide +kernel, rfl, by decide +kernel, by decide +kernel⟩
theorem ok_is_manner {f : Addr} {fd : FuncData} {k : Nat} {dM : Addr} {es : Array DictEntry} {n : Nat} (M : Mans P w K mg base dM es n) (F : Fun K "is_manner" "is_manner" s_is_manner f fd) (z : Zs mg) : FnOk P w K mg base CX0 (k + 1) f fd ["thing"] (spManner K dM) := by
  refine F.ok sc_is_manner (fun vs H Q E h => ?_) (fun cdv A outer s H vs Q E hr h => ?_)
  · obtain ⟨x, b, rfl, _⟩ := h
    rfl
  · obtain ⟨x, b, rfl, hm, q⟩ := h
    refine ⟨_, (pss_one (ps_ret (pe_and (pe_callB call_isi (by rfl) z.isinstance (by decide +kernel) (pa_cons (pv 0) (pa_cons (pe_bltn (v := .ty "str") (by rfl) z.str (by decide +kernel) rfl) pa_nil))) (pe_one (pe_cmpR (op_in_kd M.D) (pv 0) (pe_glob (v := .ref dM) (by rfl) M.gm rfl) (by rfl)))))), ?_⟩
    rcases hm with ⟨m, rfl, rfl⟩ | ⟨y, rfl, ny, rfl⟩ | ⟨rfl, t, ty, kt⟩
    · obtain ⟨fm, fdm, h1, _⟩ := M.at_ m
      exact ⟨_, rfl, _, .ty "str", _, _, true, rfl, .ty _, .base (.str _), kit_ty (by decide +kernel), _, rfl, iteT ⟨_, rfl, _, _, rfl, rfl, h1, q⟩⟩
    · exact ⟨_, rfl, _, .ty "str", _, _, true, rfl, .ty _, .base (.str _), kit_ty (by decide +kernel), _, rfl, iteT ⟨_, rfl, _, _, rfl, rfl, ny, q⟩⟩
    · exact ⟨_, rfl, _, .ty "str", _, _, false, rfl, .ty _, ty, kit_ty kt, _, rfl, iteF q⟩
end
end E1

namespace E1
open PySem PySem.Spec PyProof.Rows L2
abbrev s_Form___init__ : Stmt := inClass (topS 27) 0
abbrev s_Form_least : Stmt := inClass (topS 27) 1
abbrev s_Form_greatest : Stmt := inClass (topS 27) 2
abbrev s_Form_has : Stmt := inClass (topS 27) 3
abbrev s_Form_step : Stmt := inClass (topS 27) 4
abbrev s_Form_slack : Stmt := inClass (topS 27) 5
abbrev s_Form_value : Stmt := inClass (topS 27) 6
abbrev s_Form_word_for : Stmt := inClass (topS 27) 7
abbrev s_Form_kept : Stmt := inClass (topS 27) 9
abbrev s_Form_bits : Stmt := inClass (topS 27) 11
abbrev s_Form_is_bits : Stmt := inClass (topS 27) 12
abbrev s_Form_word_of : Stmt := inClass (topS 27) 13
abbrev s_Form_added : Stmt := inClass (topS 27) 14
abbrev s_Form___eq__ : Stmt := inClass (topS 27) 15
abbrev s_Form___str__ : Stmt := inClass (topS 27) 16
abbrev s_Form___repr__ : Stmt := inClass (topS 27) 17

/-! ### objects: methods, making -/
def CalM (P : Program) (w : World) (K : PySem.W.Frag) (mg : Str → Option Value) (base : Heap) (k : Nat) (C : Addr) (m : Str) (ps : List Str) (sp : Sp) : Prop :=
  ∃ (f : Addr) (fd : FuncData), Meth K C m f ∧ Binds K fd ps [] ∧ FnOk P w K mg base CX0 k f fd ps sp
def CalMK (P : Program) (w : World) (K : PySem.W.Frag) (mg : Str → Option Value) (base : Heap) (k : Nat) (C : Addr) (m : Str) (ps ks : List Str) (gV : List V → List V → List V) (sp : Sp) : Prop :=
  ∃ (f : Addr) (fd : FuncData) (g : List Value → List Value → List Value), Meth K C m f ∧ KBn K fd ps 1 ks g gV ∧ FnOk P w K mg base CX0 k f fd ps sp
def CalC (P : Program) (w : World) (K : PySem.W.Frag) (mg : Str → Option Value) (base : Heap) (k : Nat) (x : Str) (C : Addr) (ps : List Str) (dvs : List V) (sp : Sp) : Prop :=
  ∃ (f : Addr) (fd : FuncData) (ds : List Value), Mk K C f ∧ mg x = some (.ref C) ∧ Vals dvs ds ∧ Binds K fd ps ds ∧ FnOk P w K mg base CX0 k f fd ps sp
section
variable {X : Cx} {k j : Nat} {C : Addr} {m x : Str} {ps ks : List Str} {dvs : List V} {sp : Sp} {o e : Expr} {es : List Expr} {ta : TE} {t tk : TA} {apos p pos : Pos} {gV : List V → List V → List V} {kws : List Keyword}
theorem pe_calm {pl : Sem Bool} (he : PE X o ta) (c : Cls X.K C) (h : CalM X.prog X.w X.K X.mg X.base k C m ps sp) (hr : Room j X.A) (ha : PA X (e :: es) t) (hle : k ≤ j := by decide)
    (hst : starEach (e :: es) X.env = (false, eval e X.env) :: starEach es X.env := by rfl) (hpl : (backTo pos (starEach es X.env)).any (·.1) = false := by rfl)
    (ht : eval (.Call (.Attribute o m apos) (e :: es) [] pos) X.env = (do
      let ov ← eval o X.env
      standAt apos.atName
      let (f, first) ← holding [ov] (getMethod ov m pl)
      callWith pos f first (backTo pos (starEach (e :: es) X.env)) (backToKw pos (keywordEach [] X.env))) := by rfl) :
    PE X (.Call (.Attribute o m apos) (e :: es) [] pos) (tMeth C m sp [] E0 ta t) := by
  obtain ⟨f, fd, h1, h2, h3⟩ := h
  exact pe_meth he c h1 h3 (hr.mono hle) h2 .nil pass0 ha hst hpl ht
theorem pe_calm0 {pl : Sem Bool} (he : PE X o ta) (c : Cls X.K C) (h : CalM X.prog X.w X.K X.mg X.base k C m ps sp) (hr : Room j X.A) (hle : k ≤ j := by decide)
    (ht : eval (.Call (.Attribute o m apos) [] [] pos) X.env = (do
      let ov ← eval o X.env
      standAt apos.atName
      let (f, first) ← holding [ov] (getMethod ov m pl)
      callWith pos f first (backTo pos (starEach [] X.env)) (backToKw pos (keywordEach [] X.env))) := by rfl) :
    PE X (.Call (.Attribute o m apos) [] [] pos) (tMeth C m sp [] E0 ta tNil) := by
  obtain ⟨f, fd, h1, h2, h3⟩ := h
  exact pe_meth0 he c h1 h3 (hr.mono hle) h2 .nil pass0 ht
def tMethK (C : Addr) (m : Str) (n : Nat) (sp : Sp) (gV : List V → List V → List V) (ta : TE) (tk : TA) : TE := fun σ H Q => ta σ H fun x H1 => ∃ a dx fs, x = .ref a ∧ H1 a = some (.ins C dx fs) ∧ fs.lookup m = none ∧
  tk σ H1 fun zs H2 => zs.length = n ∧ sp (gV [x] zs) H2 Q E0
theorem pe_calmk0 {pl : Sem Bool} (he : PE X o ta) (c : Cls X.K C) (h : CalMK X.prog X.w X.K X.mg X.base k C m ps ks gV sp) (hr : Room j X.A) (hkw : PK X kws tk) (hle : k ≤ j := by decide)
    (hall : (backToKw pos (keywordEach kws X.env)).all (·.1.isSome) = true := by rfl) (hks : (backToKw pos (keywordEach kws X.env)).filterMap (·.1) = ks := by rfl)
    (hpl : ((backTo pos (starEach [] X.env)).any (·.1) || (backToKw pos (keywordEach kws X.env)).any (·.1.isNone)) = false := by rfl)
    (ht : eval (.Call (.Attribute o m apos) [] kws pos) X.env = (do
      let ov ← eval o X.env
      standAt apos.atName
      let (f, first) ← holding [ov] (getMethod ov m pl)
      callWith pos f first (backTo pos (starEach [] X.env)) (backToKw pos (keywordEach kws X.env))) := by rfl) :
    PE X (.Call (.Attribute o m apos) [] kws pos) (tMethK C m ks.length sp gV ta tk) := by
  obtain ⟨f, fd, g, hm, hb, F⟩ := h
  refine ⟨fun pins s σ H Q I h => ?_⟩
  refine PySem.W.methodCall_KW (pl := pl) (thn (he.run pins s σ H _ I h) fun u s1 ⟨x, H1, I1, rx, a, dx, fs, ex, ea, l, q⟩ => ?_) ht
  subst ex
  obtain rfl : u = Value.ref a := rx
  refine getmeth_ok I1 ea c hm l ?_
  refine PySem.W.callWith_KW0 (first := [.ref a]) (h₀ := X.base) I.ok.mod.kin hm.kp hall (thn (hkw.run pos pins s1 σ H1 _ I1 q) fun ws s2 ⟨zs, H2, I2, rz, l2, q2⟩ => ⟨I2.kIn, ?_⟩) hpl
  rw [hks]
  exact run_fnN (vs := [.ref a]) (us := [.ref a]) F (hr.mono hle) hb pass0 I2 (.cons rfl .nil) rz rfl l2 q2
theorem pe_calc (h : CalC X.prog X.w X.K X.mg X.base k x C ps dvs sp) (hr : Room j X.A) (ha : PA X (e :: es) t) (hle : k + 1 ≤ j := by decide) (hg : Gl X x := by rfl)
    (hdb : (x == ("__debug__" : Str)) = false := by decide) (he : starEach (e :: es) X.env = (false, eval e X.env) :: starEach es X.env := by rfl) (hpl : (backTo pos (starEach es X.env)).any (·.1) = false := by rfl) :
    PE X (.Call (.Name x p) (e :: es) [] pos) (tMake C sp dvs E0 t) := by
  obtain ⟨f, fd, ds, h1, h2, h3, h4, h5⟩ := h
  exact pe_make h1 h5 (hr.mono hle) hg h2 h4 h3 pass0 ha hdb he hpl
end
/-! ### forms -/
def wV : Option Int → V
  | none => .non
  | some w => .int w
def endS : Bool → Str
  | true => "stop"
  | false => "wrap"
def flds (w : Option Int) (pt : Int) (m : Mn) (st : Bool) : List (Str × V) := [("width", wV w), ("point", .int pt), ("manner", .str m.str), ("ends", .str (endS st))]
def WOk (w : Option Int) : Prop := ∀ x, w = some x → 2 ≤ x ∧ x ≤ 64
structure FormAt (C : Addr) (H : Hp) (p : Addr) (w : Option Int) (pt : Int) (m : Mn) (st : Bool) : Prop where
  ob : ∃ dx, H p = some (.ins C dx (flds w pt m st))
  wo : WOk w
  p0 : -64 ≤ pt
  p1 : pt ≤ 64
theorem FormAt.same {C : Addr} {H H' : Hp} {p : Addr} {w : Option Int} {pt : Int} {m : Mn} {st : Bool} (f : FormAt C H p w pt m st) (s : Same H H') : FormAt C H' p w pt m st := by
  obtain ⟨⟨dx, h⟩, a, b, c⟩ := f
  exact ⟨⟨dx, s _ _ h⟩, a, b, c⟩
theorem nPW : (("point" : Str) == "width") = false := by decide +kernel
theorem nMW : (("manner" : Str) == "width") = false := by decide +kernel
theorem nMP : (("manner" : Str) == "point") = false := by decide +kernel
theorem nEW : (("ends" : Str) == "width") = false := by decide +kernel
theorem nEP : (("ends" : Str) == "point") = false := by decide +kernel
theorem nEM : (("ends" : Str) == "manner") = false := by decide +kernel
section
variable {w : Option Int} {pt : Int} {m : Mn} {st : Bool}
theorem fl_w : (flds w pt m st).lookup ("width" : Str) = some (wV w) := by
  unfold flds
  rw [List.lookup_cons, beq_self_eq_true]
theorem fl_p : (flds w pt m st).lookup ("point" : Str) = some (.int pt) := by
  unfold flds
  rw [List.lookup_cons, nPW, List.lookup_cons, beq_self_eq_true]
theorem fl_m : (flds w pt m st).lookup ("manner" : Str) = some (.str m.str) := by
  unfold flds
  rw [List.lookup_cons, nMW, List.lookup_cons, nMP, List.lookup_cons, beq_self_eq_true]
theorem fl_e : (flds w pt m st).lookup ("ends" : Str) = some (.str (endS st)) := by
  unfold flds
  rw [List.lookup_cons, nEW, List.lookup_cons, nEP, List.lookup_cons, nEM, List.lookup_cons, beq_self_eq_true]
theorem fl_no {x : Str} (h : [(x == "width"), (x == "point"), (x == "manner"), (x == "ends")] = [false, false, false, false]) : (flds w pt m st).lookup x = none := by
  have h1 : (x == "width") = false := (List.cons.inj h).1
  have h2 : (x == "point") = false := (List.cons.inj (List.cons.inj h).2).1
  have h3 : (x == "manner") = false := (List.cons.inj (List.cons.inj (List.cons.inj h).2).2).1
  have h4 : (x == "ends") = false := (List.cons.inj (List.cons.inj (List.cons.inj (List.cons.inj h).2).2).2).1
  unfold flds
  rw [List.lookup_cons, h1, List.lookup_cons, h2, List.lookup_cons, h3, List.lookup_cons, h4]
  rfl
theorem ne_of_beq {a b : Str} (h : (b == a) = false) : ¬ a = b := fun e => by
  rw [e, beq_self_eq_true] at h
  cases h
theorem fl_put {a b c d : V} : putF "ends" d (putF "manner" c (putF "point" b (putF "width" a []))) = [(("width" : Str), a), ("point", b), ("manner", c), ("ends", d)] := by
  simp only [putF, if_neg (ne_of_beq nPW), if_neg (ne_of_beq nMW), if_neg (ne_of_beq nMP), if_neg (ne_of_beq nEW), if_neg (ne_of_beq nEP), if_neg (ne_of_beq nEM)]
end
/-- what the walk asks of the class and of the module's constants -/
structure FTxt (K : PySem.W.Frag) (mg : Str → Option Value) (C : Addr) : Prop where
  cl : Cls K C
  nW : NoAttr K C "width"
  nP : NoAttr K C "point"
  nM : NoAttr K C "manner"
  nE : NoAttr K C "ends"
structure FCst (K : PySem.W.Frag) (mg : Str → Option Value) (aE : Addr) : Prop where
  lw : ∃ t, mg "LEAST_WIDTH" = some (.int 2 t)
  gw : ∃ t, mg "GREATEST_WIDTH" = some (.int 64 t)
  gp : ∃ t, mg "GREATEST_POINT" = some (.int 64 t)
  e : mg "ENDS" = some (.ref aE)
  eT : ∀ H, SqT K H aE [.str "wrap", .str "stop"]
def two (n : Int) : Int := 2 ^ n.toNat
def lst (x : Int) : Int := -(two (x - 1))
def grt (x : Int) : Int := two (x - 1) - 1
def lstV : Option Int → V
  | none => .non
  | some x => .int (lst x)
def grtV : Option Int → V
  | none => .non
  | some x => .int (grt x)
def inR : Option Int → Int → Bool
  | none, _ => true
  | some x, n => decide (lst x ≤ n) && decide (n ≤ grt x)
def nearB : Mn → Bool
  | .half => true
  | .even => true
  | .far => true
  | _ => false
/-- the word as which a whole number of steps is kept -/
def wordF (w : Option Int) (st : Bool) (n : Int) : Int := match w with
  | none => n
  | some x => if inR (some x) n = true then n else if st = true then (if n < 0 then lst x else grt x) else (n - lst x) % two x + lst x
def spWidth : Sp := fun vs H Q _ => ∃ w : Option Int, vs = [wV w] ∧ WOk w ∧ Q (.bl true) H
def spPoint : Sp := fun vs H Q _ => ∃ p : Int, vs = [.int p] ∧ -64 ≤ p ∧ p ≤ 64 ∧ Q (.bl true) H
def spEnds : Sp := fun vs H Q _ => ∃ st : Bool, vs = [.str (endS st)] ∧ Q (.bl true) H
def spInit (C : Addr) : Sp := fun vs H Q _ => ∃ (p dx : Addr) (w : Option Int) (pt : Int) (m : Mn) (st : Bool), vs = [.ref p, wV w, .int pt, .str m.str, .str (endS st)] ∧ WOk w ∧ -64 ≤ pt ∧ pt ≤ 64 ∧ H p = some (.ins C dx []) ∧
  ∀ H', FormAt C H' p w pt m st → (∀ b o, b ≠ p → H b = some o → H' b = some o) → (∀ b, b ≠ p → H b = none → H' b = none) → Q .non H'
def spF (C : Addr) (r : Option Int → Int → Mn → Bool → Hp → VK → Prop) : Sp := fun vs H Q _ => ∃ (p : Addr) (w : Option Int) (pt : Int) (m : Mn) (st : Bool), vs = [.ref p] ∧ FormAt C H p w pt m st ∧ r w pt m st H Q
def spLeast (C : Addr) : Sp := spF C fun w _ _ _ H Q => Q (lstV w) H
def spGreatest (C : Addr) : Sp := spF C fun w _ _ _ H Q => Q (grtV w) H
def spStep (C : Addr) : Sp := spF C fun _ pt _ _ H Q => ∀ p, H p = none → Q (.ref p) (upd H p (.tup [.int (twoT (-pt)), .int (twoB (-pt))]))
def spSlack (C : Addr) : Sp := spF C fun _ _ m _ H Q => ∀ p, H p = none → Q (.ref p) (upd H p (.tup [.int 1, .int (if nearB m = true then 2 else 1)]))
def spHas (K : PySem.W.Frag) (C : Addr) : Sp := fun vs H Q _ => ∃ (p : Addr) (w : Option Int) (pt : Int) (m : Mn) (st : Bool) (x : V) (b : Bool), vs = [.ref p, x] ∧ FormAt C H p w pt m st ∧ ((∃ n, x = .int n ∧ b = inR w n) ∨ (WholeIs K H x false ∧ b = false)) ∧ Q (.bl b) H
def spWord (C : Addr) : Sp := fun vs H Q _ => ∃ (p : Addr) (w : Option Int) (pt : Int) (m : Mn) (st : Bool) (n : Int), vs = [.ref p, .int n] ∧ FormAt C H p w pt m st ∧ Q (.int (wordF w st n)) H
/-- how many steps a value is, rounded -/
def steps (pt : Int) (m : Mn) (t b : Int) : Int := m.f (lowT (t * twoB (-pt)) (b * twoT (-pt))) (lowB (t * twoB (-pt)) (b * twoT (-pt)))
def spKept (K : PySem.W.Frag) (C : Addr) : Sp := fun vs H Q _ => ∃ (p : Addr) (w : Option Int) (pt : Int) (m : Mn) (st : Bool) (a : Addr) (t b : Int), vs = [.ref p, .ref a] ∧ FormAt C H p w pt m st ∧ SqT K H a [.int t, .int b] ∧ 0 < b ∧ t.natAbs < 2 ^ 1500 ∧ b.natAbs < 2 ^ 1500 ∧
  ∀ (r : Addr) (H' : Hp), H r = none → Same H H' → H' r = some (.tup [.int (wordF w st (steps pt m t b)), .int (steps pt m t b - wordF w st (steps pt m t b))]) → Q (.ref r) H'
theorem two_pos (n : Int) : 0 < two n := by
  unfold two
  exact Int.pow_pos (by decide)
theorem twoT_pos (n : Int) : 0 < twoT n := by
  unfold twoT
  split
  · decide
  · exact Int.pow_pos (by decide)
theorem twoB_pos (n : Int) : 0 < twoB n := by
  unfold twoB
  split
  · exact Int.pow_pos (by decide)
  · decide
theorem two_lt {n : Int} {k : Nat} (h : n.toNat < k) : (2 ^ n.toNat : Int).natAbs < 2 ^ k := by
  rw [Int.natAbs_pow]
  exact Nat.pow_lt_pow_right (by decide) h
theorem twoT_lt {n : Int} (h1 : n ≤ 64) : (twoT n).natAbs < 2 ^ 65 := by
  unfold twoT
  split
  · decide
  · exact two_lt (by omega)
theorem twoB_lt {n : Int} (h1 : -64 ≤ n) : (twoB n).natAbs < 2 ^ 65 := by
  unfold twoB
  split
  · exact two_lt (by omega)
  · decide
theorem low_pos' {t b : Int} (hb : b ≠ 0) : 0 < lowB t b := by
  have g0 := gI_pos (t := t) hb
  have g1 := gI_le (t := t) hb
  have : 1 ≤ lowB t b := by
    unfold lowB
    refine (Int.le_ediv_iff_mul_le g0).mpr ?_
    split <;> omega
  omega
theorem lowT_le {t b : Int} : (lowT t b).natAbs ≤ t.natAbs := by
  unfold lowT
  refine Nat.le_trans (Int.natAbs_ediv_le_natAbs _ _) ?_
  split <;> omega
theorem lowB_le {t b : Int} : (lowB t b).natAbs ≤ b.natAbs := by
  unfold lowB
  refine Nat.le_trans (Int.natAbs_ediv_le_natAbs _ _) ?_
  split <;> omega
section
variable {P : Program} {w : World} {K : PySem.W.Frag} {mg : Str → Option Value} {base : Heap}
theorem sc_is_width : FnScope ["thing"] ["thing"] (defScope s_is_width) := ⟨rfl, rfl, rfl, by decide +kernel, rfl, by decide +kernel, by decide +kernel⟩
theorem ok_is_width {f : Addr} {fd : FuncData} {aE : Addr} (Z : FCst K mg aE) (F : Fun K "is_width" "is_width" s_is_width f fd) (c_is_whole : Cal P w K mg base 1 "is_whole" ["thing"] (spWhole K)) : FnOk P w K mg base CX0 2 f fd ["thing"] spWidth := by
  refine F.ok sc_is_width (fun vs H Q E h => ?_) (fun cdv A outer s H vs Q E hr h => ?_)
  · obtain ⟨w, rfl, _⟩ := h
    rfl
  · obtain ⟨w, rfl, hw, q⟩ := h
    obtain ⟨_, gLW⟩ := Z.lw
    obtain ⟨_, gGW⟩ := Z.gw
    refine ⟨_, (pss_one (ps_ret (pe_or (pe_cmpR op_isN (pv 0) pe_non (nomark _)) (pe_one (pe_and (pe_cal c_is_whole hr (pa_cons (pv 0) pa_nil)) (pe_one (pe_chain op_le op_le (pe_glob (v := .int 2) (by rfl) gLW ⟨_, rfl⟩) (pv 0) (pe_glob (v := .int 64) (by rfl) gGW ⟨_, rfl⟩)))))))), ?_⟩
    cases w with
    | none => exact ⟨_, rfl, rfl, _, rfl, iteT q⟩
    | some x =>
      obtain ⟨h1, h2⟩ := hw x rfl
      refine ⟨_, rfl, rfl, _, rfl, iteF ⟨_, rfl, _, _, rfl, .int x, _, rfl, iteT ⟨_, rfl, _, _, rfl, rfl, _, rfl, ?_⟩⟩⟩
      rw [decide_eq_true h1]
      refine iteT ⟨_, _, rfl, rfl, ?_⟩
      show Q (.bl (decide (x ≤ 64))) H
      rw [decide_eq_true h2]
      exact q
theorem sc_is_point : FnScope ["thing"] ["thing"] (defScope s_is_point) := ⟨rfl, rfl, rfl, by decide +kernel, rfl, by decide +kernel, by decide +kernel⟩
theorem ok_is_point {f : Addr} {fd : FuncData} {aE : Addr} (Z : FCst K mg aE) (F : Fun K "is_point" "is_point" s_is_point f fd) (z : Zs mg) (c_is_whole : Cal P w K mg base 1 "is_whole" ["thing"] (spWhole K)) : FnOk P w K mg base CX0 2 f fd ["thing"] spPoint := by
  refine F.ok sc_is_point (fun vs H Q E h => ?_) (fun cdv A outer s H vs Q E hr h => ?_)
  · obtain ⟨x, rfl, _⟩ := h
    rfl
  · obtain ⟨x, rfl, h1, h2, q⟩ := h
    obtain ⟨_, gGP⟩ := Z.gp
    refine ⟨_, (pss_one (ps_ret (pe_and (pe_cal c_is_whole hr (pa_cons (pv 0) pa_nil)) (pe_one (pe_cmpR op_le (pe_callB call_abs (by rfl) z.abs (by decide +kernel) (pa_cons (pv 0) pa_nil)) (pe_glob (v := .int 64) (by rfl) gGP ⟨_, rfl⟩) (nomark _)))))), ?_⟩
    refine ⟨_, rfl, _, _, rfl, .int x, _, rfl, iteT ⟨_, rfl, _, rfl, _, _, rfl, rfl, ?_⟩⟩
    show Q (.bl (decide ((if x < 0 then -x else x) ≤ 64))) H
    rw [decide_eq_true (show (if x < 0 then -x else x) ≤ 64 by split <;> omega)]
    exact q
theorem sc_is_ends : FnScope ["thing"] ["thing"] (defScope s_is_ends) := ⟨rfl, rfl, rfl, by decide +kernel, rfl, by decide +kernel, by decide +kernel⟩
theorem ok_is_ends {f : Addr} {fd : FuncData} {k : Nat} {aE : Addr} (Z : FCst K mg aE) (F : Fun K "is_ends" "is_ends" s_is_ends f fd) (z : Zs mg) : FnOk P w K mg base CX0 (k + 1) f fd ["thing"] spEnds := by
  refine F.ok sc_is_ends (fun vs H Q E h => ?_) (fun cdv A outer s H vs Q E hr h => ?_)
  · obtain ⟨st, rfl, _⟩ := h
    rfl
  · obtain ⟨st, rfl, q⟩ := h
    refine ⟨_, (pss_one (ps_ret (pe_and (pe_callB call_isi (by rfl) z.isinstance (by decide +kernel) (pa_cons (pv 0) (pa_cons (pe_bltn (v := .ty "str") (by rfl) z.str (by decide +kernel) rfl) pa_nil))) (pe_one (pe_cmpR op_in_seq (pv 0) (pe_glob (v := .ref aE) (by rfl) Z.e rfl) (by rfl)))))), ?_⟩
    refine ⟨_, rfl, _, .ty "str", _, _, true, rfl, .ty _, .base (.str _), kit_ty (by decide +kernel), _, rfl, iteT ⟨_, rfl, aE, _, rfl, .inr (Z.eT _), rfl, rfl, ?_⟩⟩
    cases st with
    | true =>
      rw [show inV (V.str (endS true)) [V.str "wrap", V.str "stop"] = true by decide +kernel]
      exact q
    | false =>
      rw [show inV (V.str (endS false)) [V.str "wrap", V.str "stop"] = true by decide +kernel]
      exact q
theorem sc_Form___init__ : FnScope ["self", "width", "point", "manner", "ends"] ["self", "width", "point", "manner", "ends"] (defScope s_Form___init__) := ⟨rfl, rfl, rfl, by decide +kernel, rfl, by decide +kernel, by decide +kernel⟩
theorem ok_Form___init__ {f : Addr} {fd : FuncData} {dM : Addr} {dvs : List V} {C : Addr} (T : FTxt K mg C) (F : FunD K "__init__" "Form.__init__" (defArgs s_Form___init__) (defBody s_Form___init__) (defScope s_Form___init__) dvs [] f fd) (c_is_width : Cal P w K mg base 2 "is_width" ["thing"] spWidth) (c_is_point : Cal P w K mg base 2 "is_point" ["thing"] spPoint) (c_is_manner : Cal P w K mg base 1 "is_manner" ["thing"] (spManner K dM)) (c_is_ends : Cal P w K mg base 1 "is_ends" ["thing"] spEnds) : FnOk P w K mg base CX0 3 f fd ["self", "width", "point", "manner", "ends"] (spInit C) := by
  refine F.ok sc_Form___init__ (fun vs H Q E h => ?_) (fun cdv A outer s H vs Q E hr h => ?_)
  · obtain ⟨p, dx, w, pt, m, st, rfl, _⟩ := h
    rfl
  · obtain ⟨p, dx, w, pt, m, st, rfl, hw, h0, h1, hp, q⟩ := h
    refine ⟨_, PSs.nox (pss_cons (ps_if (pt_not (pt_val (pe_cal c_is_width hr (pa_cons (pv 1) pa_nil)))) (pss_one ps_never) pss_nil)
      (pss_cons (ps_if (pt_not (pt_val (pe_cal c_is_point hr (pa_cons (pv 2) pa_nil)))) (pss_one ps_never) pss_nil)
      (pss_cons (ps_if (pt_not (pt_val (pe_cal c_is_manner hr (pa_cons (pv 3) pa_nil)))) (pss_one ps_never) pss_nil)
      (pss_cons (ps_if (pt_not (pt_val (pe_cal c_is_ends hr (pa_cons (pv 4) pa_nil)))) (pss_one ps_never) pss_nil)
      (pss_cons (ps_fld (pv 0) (pv 1) rfl)
      (pss_cons (ps_fld (pv 0) (pv 2) rfl)
      (pss_cons (ps_fld (pv 0) (pv 3) rfl)
      (pss_one (ps_fld (pv 0) (pv 4) rfl))))))))), ?_⟩
    refine ⟨_, rfl, w, rfl, hw, _, rfl, iteF ?_⟩
    refine ⟨_, rfl, pt, rfl, h0, h1, _, rfl, iteF ?_⟩
    refine ⟨_, rfl, _, true, rfl, .inl ⟨m, rfl, rfl⟩, _, rfl, iteF ?_⟩
    refine ⟨_, rfl, st, rfl, _, rfl, iteF ?_⟩
    refine ⟨_, rfl, _, rfl, p, C, dx, [], rfl, hp, T.cl, T.nW, (by show 0 < 1000; decide), ?_⟩
    refine ⟨_, rfl, _, rfl, p, C, dx, _, rfl, upd_same, T.cl, T.nP, (by show 1 < 1000; decide), ?_⟩
    refine ⟨_, rfl, _, rfl, p, C, dx, _, rfl, upd_same, T.cl, T.nM, ?_, ?_⟩
    · simp only [putF, if_neg (ne_of_beq nPW)]
      show 2 < 1000
      decide
    refine ⟨_, rfl, _, rfl, p, C, dx, _, rfl, upd_same, T.cl, T.nE, ?_, ?_⟩
    · simp only [putF, if_neg (ne_of_beq nPW), if_neg (ne_of_beq nMW), if_neg (ne_of_beq nMP)]
      show 3 < 1000
      decide
    refine q _ ⟨⟨dx, ?_⟩, hw, h0, h1⟩ (fun b o hb e => ?_) (fun b hb e => ?_)
    · rw [upd_same]
      exact congrArg (fun l => some (HO.ins C dx l)) fl_put
    · rw [upd_ne hb, upd_ne hb, upd_ne hb, upd_ne hb]
      exact e
    · rw [upd_ne hb, upd_ne hb, upd_ne hb, upd_ne hb]
      exact e
theorem sc_Form_least : FnScope ["self"] ["self"] (defScope s_Form_least) := ⟨rfl, rfl, rfl, by decide +kernel, rfl, by decide +kernel, by decide +kernel⟩
theorem ok_Form_least {f : Addr} {fd : FuncData} {k : Nat} {C : Addr} (T : FTxt K mg C) (F : Fun K "least" "Form.least" s_Form_least f fd) : FnOk P w K mg base CX0 (k + 1) f fd ["self"] (spLeast C) := by
  refine F.ok sc_Form_least (fun vs H Q E h => ?_) (fun cdv A outer s H vs Q E hr h => ?_)
  · obtain ⟨p, w, pt, m, st, rfl, _⟩ := h
    rfl
  · obtain ⟨p, w, pt, m, st, rfl, ⟨⟨dx, ho⟩, hw, _, _⟩, q⟩ := h
    refine ⟨_, (pss_one (ps_ret (pe_ifExp (pt_cmpR op_isN (pe_fld (pv 0) rfl) pe_non (nomark _)) pe_non (pe_un un_neg (pe_op op_shl pe_int (pe_op op_sub (pe_fld (pv 0) rfl) pe_int)))))), ?_⟩
    refine ⟨_, rfl, p, C, dx, _, _, rfl, ho, T.cl, T.nW, fl_w, rfl, _, rfl, ?_⟩
    cases w with
    | none => exact iteT q
    | some x =>
      obtain ⟨h1, h2⟩ := hw x rfl
      refine iteF ⟨_, rfl, p, C, dx, _, _, rfl, ho, T.cl, T.nW, fl_w, _, _, rfl, rfl, _, _, rfl, rfl, ⟨by omega, by omega, by decide⟩, _, rfl, ?_⟩
      have e : (1 : Int) * 2 ^ (x - 1).toNat = two (x - 1) := Int.one_mul _
      rw [e]
      exact q
theorem sc_Form_greatest : FnScope ["self"] ["self"] (defScope s_Form_greatest) := ⟨rfl, rfl, rfl, by decide +kernel, rfl, by decide +kernel, by decide +kernel⟩
theorem ok_Form_greatest {f : Addr} {fd : FuncData} {k : Nat} {C : Addr} (T : FTxt K mg C) (F : Fun K "greatest" "Form.greatest" s_Form_greatest f fd) : FnOk P w K mg base CX0 (k + 1) f fd ["self"] (spGreatest C) := by
  refine F.ok sc_Form_greatest (fun vs H Q E h => ?_) (fun cdv A outer s H vs Q E hr h => ?_)
  · obtain ⟨p, w, pt, m, st, rfl, _⟩ := h
    rfl
  · obtain ⟨p, w, pt, m, st, rfl, ⟨⟨dx, ho⟩, hw, _, _⟩, q⟩ := h
    refine ⟨_, (pss_one (ps_ret (pe_ifExp (pt_cmpR op_isN (pe_fld (pv 0) rfl) pe_non (nomark _)) pe_non (pe_op op_sub (pe_op op_shl pe_int (pe_op op_sub (pe_fld (pv 0) rfl) pe_int)) pe_int)))), ?_⟩
    refine ⟨_, rfl, p, C, dx, _, _, rfl, ho, T.cl, T.nW, fl_w, rfl, _, rfl, ?_⟩
    cases w with
    | none => exact iteT q
    | some x =>
      obtain ⟨h1, h2⟩ := hw x rfl
      refine iteF ⟨_, rfl, p, C, dx, _, _, rfl, ho, T.cl, T.nW, fl_w, _, _, rfl, rfl, _, _, rfl, rfl, ⟨by omega, by omega, by decide⟩, _, _, rfl, rfl, ?_⟩
      have e : (1 : Int) * 2 ^ (x - 1).toNat = two (x - 1) := Int.one_mul _
      rw [e]
      exact q
theorem sc_Form_has : FnScope ["self", "thing"] ["self", "thing"] (defScope s_Form_has) := ⟨rfl, rfl, rfl, by decide +kernel, rfl, by decide +kernel, by decide +kernel⟩
theorem ok_Form_has {f : Addr} {fd : FuncData} {C : Addr} (T : FTxt K mg C) (F : Fun K "has" "Form.has" s_Form_has f fd) (c_is_whole : Cal P w K mg base 1 "is_whole" ["thing"] (spWhole K)) (m_least : CalM P w K mg base 1 C "least" ["self"] (spLeast C)) (m_greatest : CalM P w K mg base 1 C "greatest" ["self"] (spGreatest C)) : FnOk P w K mg base CX0 2 f fd ["self", "thing"] (spHas K C) := by
  refine F.ok sc_Form_has (fun vs H Q E h => ?_) (fun cdv A outer s H vs Q E hr h => ?_)
  · obtain ⟨p, w, pt, m, st, x, b, rfl, _⟩ := h
    rfl
  · obtain ⟨p, w, pt, m, st, x, b, rfl, hf, hx, q⟩ := h
    obtain ⟨⟨dx, ho⟩, hw, _, _⟩ := id hf
    refine ⟨_, (pss_cons (ps_if (pt_not (pt_val (pe_cal c_is_whole hr (pa_cons (pv 1) pa_nil)))) (pss_one (ps_ret pe_bl)) pss_nil)
      (pss_one (ps_ret (pe_or (pe_cmpR op_isN (pe_fld (pv 0) rfl) pe_non (nomark _)) (pe_one (pe_chain op_le op_le (pe_calm0 (pv 0) T.cl m_least hr) (pv 1) (pe_calm0 (pv 0) T.cl m_greatest hr))))))), ?_⟩
    rcases hx with ⟨n, rfl, rfl⟩ | ⟨hx, rfl⟩
    · refine ⟨_, rfl, _, true, rfl, .int n, _, rfl, iteF ?_⟩
      refine ⟨_, rfl, p, C, dx, _, _, rfl, ho, T.cl, T.nW, fl_w, rfl, _, rfl, ?_⟩
      cases w with
      | none => exact iteT q
      | some y =>
        refine iteF ⟨_, rfl, p, dx, _, rfl, ho, fl_no (by decide +kernel), p, some y, pt, m, st, rfl, hf, _, rfl, _, _, rfl, rfl, _, rfl, ?_⟩
        by_cases c : lst y ≤ n
        · rw [decide_eq_true c]
          refine iteT ⟨_, rfl, p, dx, _, rfl, ho, fl_no (by decide +kernel), p, some y, pt, m, st, rfl, hf, _, _, rfl, rfl, ?_⟩
          have q' : Q (.bl (decide (lst y ≤ n) && decide (n ≤ grt y))) H := q
          rw [decide_eq_true c, Bool.true_and] at q'
          exact q'
        · rw [decide_eq_false c]
          refine iteF ?_
          have q' : Q (.bl (decide (lst y ≤ n) && decide (n ≤ grt y))) H := q
          rw [decide_eq_false c, Bool.false_and] at q'
          exact q'
    · exact ⟨_, rfl, _, false, rfl, hx, _, rfl, iteT q⟩
end
end E1

namespace E1
open PySem PySem.Spec PyProof.Rows L2
/-! ### methods that may raise -/
def CalMX (P : Program) (w : World) (K : PySem.W.Frag) (mg : Str → Option Value) (base : Heap) (k : Nat) (C : Addr) (m : Str) (ps : List Str) (sp : Sp) : Prop :=
  ∃ (f : Addr) (fd : FuncData), Meth K C m f ∧ Binds K fd ps [] ∧ FnOk P w K mg base (L2.CX P w) k f fd ps sp
def CalMXK (P : Program) (w : World) (K : PySem.W.Frag) (mg : Str → Option Value) (base : Heap) (k : Nat) (C : Addr) (m : Str) (ps ks : List Str) (gV : List V → List V → List V) (sp : Sp) : Prop :=
  ∃ (f : Addr) (fd : FuncData) (g : List Value → List Value → List Value), Meth K C m f ∧ KBn K fd ps 1 ks g gV ∧ FnOk P w K mg base (L2.CX P w) k f fd ps sp
def tMethX (C : Addr) (m : Str) (sp : Sp) (E : L2.St → XK) (ta : TE) (t : TA) : TE := fun σ H Q => ta σ H fun x H1 => ∃ a dx fs, x = .ref a ∧ H1 a = some (.ins C dx fs) ∧ fs.lookup m = none ∧ t σ H1 fun vs H2 => sp (x :: vs) H2 Q (E σ)
section
variable {X : Cx} {k j : Nat} {C : Addr} {m x : Str} {ps ks : List Str} {dvs : List V} {sp : Sp} {o e : Expr} {es : List Expr} {ta : TE} {t tk : TA} {apos p pos : Pos} {gV : List V → List V → List V} {kws : List Keyword}
theorem pe_calmx {pl : Sem Bool} (he : PE X o ta) (c : Cls X.K C) (h : CalMX X.prog X.w X.K X.mg X.base k C m ps sp) (hr : Room j X.A) (ha : PA X (e :: es) t) (hle : k ≤ j := by decide)
    (hst : starEach (e :: es) X.env = (false, eval e X.env) :: starEach es X.env := by rfl) (hpl : (backTo pos (starEach es X.env)).any (·.1) = false := by rfl)
    (ht : eval (.Call (.Attribute o m apos) (e :: es) [] pos) X.env = (do
      let ov ← eval o X.env
      standAt apos.atName
      let (f, first) ← holding [ov] (getMethod ov m pl)
      callWith pos f first (backTo pos (starEach (e :: es) X.env)) (backToKw pos (keywordEach [] X.env))) := by rfl) :
    PE X (.Call (.Attribute o m apos) (e :: es) [] pos) (tMeth C m sp [] E0 ta t) := by
  obtain ⟨f, fd, h1, h2, h3⟩ := h
  exact pe_meth he c h1 h3 (hr.mono hle) h2 .nil passL ha hst hpl ht
theorem pe_calmkx0 {pl : Sem Bool} (he : PE X o ta) (c : Cls X.K C) (h : CalMXK X.prog X.w X.K X.mg X.base k C m ps ks gV sp) (hr : Room j X.A) (hkw : PK X kws tk) (hle : k ≤ j := by decide)
    (hall : (backToKw pos (keywordEach kws X.env)).all (·.1.isSome) = true := by rfl) (hks : (backToKw pos (keywordEach kws X.env)).filterMap (·.1) = ks := by rfl)
    (hpl : ((backTo pos (starEach [] X.env)).any (·.1) || (backToKw pos (keywordEach kws X.env)).any (·.1.isNone)) = false := by rfl)
    (ht : eval (.Call (.Attribute o m apos) [] kws pos) X.env = (do
      let ov ← eval o X.env
      standAt apos.atName
      let (f, first) ← holding [ov] (getMethod ov m pl)
      callWith pos f first (backTo pos (starEach [] X.env)) (backToKw pos (keywordEach kws X.env))) := by rfl) :
    PE X (.Call (.Attribute o m apos) [] kws pos) (tMethK C m ks.length sp gV ta tk) := by
  obtain ⟨f, fd, g, hm, hb, F⟩ := h
  refine ⟨fun pins s σ H Q I h => ?_⟩
  refine PySem.W.methodCall_KW (pl := pl) (thn (he.run pins s σ H _ I h) fun u s1 ⟨x, H1, I1, rx, a, dx, fs, ex, ea, l, q⟩ => ?_) ht
  subst ex
  obtain rfl : u = Value.ref a := rx
  refine getmeth_ok I1 ea c hm l ?_
  refine PySem.W.callWith_KW0 (first := [.ref a]) (h₀ := X.base) I.ok.mod.kin hm.kp hall (thn (hkw.run pos pins s1 σ H1 _ I1 q) fun ws s2 ⟨zs, H2, I2, rz, l2, q2⟩ => ⟨I2.kIn, ?_⟩) hpl
  rw [hks]
  exact run_fnN (vs := [.ref a]) (us := [.ref a]) F (hr.mono hle) hb passL I2 (.cons rfl .nil) rz rfl l2 q2
/-- a method's call whose error a try around it waits for -/
theorem pe_calmxS {W : WX} {pl : Sem Bool} (he : PE X o ta) (c : Cls X.K C) (h : CalMX X.prog X.w X.K X.mg X.base k C m ps sp) (hr : Room j X.A) (tk : Takes X W) (ha : PA X (e :: es) t) (hle : k ≤ j := by decide)
    (hst : starEach (e :: es) X.env = (false, eval e X.env) :: starEach es X.env := by rfl) (hpl : (backTo pos (starEach es X.env)).any (·.1) = false := by rfl)
    (ht : eval (.Call (.Attribute o m apos) (e :: es) [] pos) X.env = (do
      let ov ← eval o X.env
      standAt apos.atName
      let (f, first) ← holding [ov] (getMethod ov m pl)
      callWith pos f first (backTo pos (starEach (e :: es) X.env)) (backToKw pos (keywordEach [] X.env))) := by rfl) :
    PE X (.Call (.Attribute o m apos) (e :: es) [] pos) (tMethX C m sp (WE W) ta t) := by
  obtain ⟨f, fd, hm, hb, F⟩ := h
  refine ⟨fun pins s σ H Q I h => ?_⟩
  refine PySem.W.methodCall_KW (pl := pl) (thn (he.run pins s σ H _ I h) fun u s1 ⟨x, H1, I1, rx, a, dx, fs, ex, ea, l, q⟩ => ?_) ht
  subst ex
  obtain rfl : u = Value.ref a := rx
  refine getmeth_ok I1 ea c hm l ?_
  refine PySem.W.callWith_K (first := [.ref a]) (h₀ := X.base) I.ok.mod.kin hm.kp (thn (ha.run pos pins s1 σ H1 _ I1 q) fun us s2 ⟨vs, H2, I2, r, q2⟩ => ⟨I2.kIn, ?_⟩) hst hpl
  exact run_fnS (us := .ref a :: us) (vs := .ref a :: vs) F (hr.mono hle) hb (passAt tk σ) I2 (.cons rfl r) q2
end
theorem qt {p : Prop} [Decidable p] {Q : VK} {H : Hp} (h : p) (q : Q (.bl true) H) : Q (.bl (decide p)) H := (congrArg (fun c => Q (.bl c) H) (decide_eq_true h)).mpr q
theorem iteC {c d : Bool} {A B : Prop} (e : c = d) (h : if d = true then A else B) : if c = true then A else B := e ▸ h
open C8 (tCut pss_cut)
structure Drw (a : Addr) (H H' : Hp) : Prop where
  but : SameBut a H H'
  new : ∀ b, H b = none → H' b = none
theorem Drw.refl (a : Addr) (H : Hp) : Drw a H H := ⟨SameBut.refl a H, fun _ h => h⟩
theorem Drw.trans {a : Addr} {H H1 H2 : Hp} (x : Drw a H H1) (y : Drw a H1 H2) : Drw a H H2 := ⟨x.but.trans y.but, fun b h => y.new b (x.new b h)⟩
/-- what lies at a well's place is no new thing -/
theorem WellAt.ne {H : Hp} {a p : Addr} {c : Int} (h : WellAt H a c) (hp : H p = none) : p ≠ a := fun e => by
  obtain ⟨_, _, _, z, _⟩ := h
  rw [e, z] at hp
  cases hp
/-- new things alone, beside the well -/
theorem SameBut.free {a : Addr} {H H' : Hp} {p : Addr} {c : Int} (s : SameBut a H H') (w : WellAt H' a c) (hp : H' p = none) : H p = none := by
  cases e : H p with
  | none => rfl
  | some o =>
    rw [s _ _ (w.ne hp) e] at hp
    cases hp

theorem small1000' {n : Nat} (h : n ≤ 1000) : n < sizeLine := Nat.lt_of_le_of_lt h (by decide)
/-- no word, whatever else is laid -/
def NoWord (K : PySem.W.Frag) (H : Hp) (w : Option Int) (x : V) : Prop := (∃ n, x = .int n ∧ inR w n = false) ∨ WholeIs K H x false
def Raised (C : Addr) (fld : Str) (H : Hp) (E : XK) : Prop := ∀ d H', Same H H' → H' d = some (.xd [(fld, .int 0)]) → E (.ref C) (some d) H'
def spBits (K : PySem.W.Frag) (C CU : Addr) : Sp := fun vs H Q E => ∃ (p : Addr) (w : Option Int) (pt : Int) (m : Mn) (st : Bool) (x : V), vs = [.ref p, x] ∧ FormAt C H p w pt m st ∧
  ((∃ (y : Int) (n : Int), w = some y ∧ x = .int n ∧ inR w n = true ∧ Q (.str (txt (lowb n y.toNat))) H) ∨ ((w = none ∨ NoWord K H w x) ∧ Raised CU "at" H E))
/-- whether a thing is the bits of a word -/
def BitsIs (K : PySem.W.Frag) (H : Hp) (w : Option Int) (x : V) (b : Bool) : Prop := (w = none ∧ b = false) ∨
  (∃ (y : Int) (l : List Nat), w = some y ∧ x = .str (txt l) ∧ l.length ≤ 1000 ∧ b = (decide ((l.length : Int) = y) && l.all fun c => c == 48 || c == 49)) ∨
  (b = false ∧ ∃ t : String, TyX K H x (.type t) ∧ kitB t "str" = some false)
def spIsBits (K : PySem.W.Frag) (C : Addr) : Sp := fun vs H Q _ => ∃ (p : Addr) (w : Option Int) (pt : Int) (m : Mn) (st : Bool) (x : V) (b : Bool), vs = [.ref p, x] ∧ FormAt C H p w pt m st ∧ BitsIs K H w x b ∧ ∀ H', Same H H' → Q (.bl b) H'
def spWordOf (K : PySem.W.Frag) (C CT : Addr) : Sp := fun vs H Q E => ∃ (p : Addr) (w : Option Int) (pt : Int) (m : Mn) (st : Bool) (x : V), vs = [.ref p, x] ∧ FormAt C H p w pt m st ∧
  ((∃ (y : Int) (n : Int), w = some y ∧ x = .str (txt (lowb n y.toNat)) ∧ inR w n = true ∧ ∀ H', Same H H' → Q (.int n) H') ∨ (BitsIs K H w x false ∧ Raised CT "line" H E))
theorem two_cast {y : Int} (h : 0 ≤ y) : two y = 2 ^ y.toNat := rfl
theorem two_half {y : Int} (h : 1 ≤ y) : two y = two (y - 1) * 2 := by
  unfold two
  rw [show y.toNat = (y - 1).toNat + 1 by omega, Int.pow_succ]
theorem in_some {y n : Int} (h : inR (some y) n = true) : -(two (y - 1)) ≤ n ∧ n ≤ two (y - 1) - 1 := by
  have : (decide (lst y ≤ n) && decide (n ≤ grt y)) = true := h
  rw [Bool.and_eq_true, decide_eq_true_eq, decide_eq_true_eq] at this
  exact this
/-- the number whose digits the bits are -/
def unsg (n y : Int) : Int := if n < 0 then n + two y else n
theorem unsg_ok {y n : Int} (h2 : 2 ≤ y) (h : inR (some y) n = true) : 0 ≤ unsg n y ∧ unsg n y < 2 ^ y.toNat ∧ lowb (unsg n y) y.toNat = lowb n y.toNat := by
  obtain ⟨a, b⟩ := in_some h
  have p := two_pos (y - 1)
  have e := two_half (y := y) (by omega)
  have e2 : two y = 2 ^ y.toNat := rfl
  unfold unsg
  by_cases c : n < 0
  · rw [if_pos c]
    refine ⟨by omega, by omega, ?_⟩
    rw [e2]
    exact lowb_add _ _
  · rw [if_neg c]
    exact ⟨by omega, by omega, rfl⟩
theorem worth_unsg {y n : Int} (h2 : 2 ≤ y) (h : inR (some y) n = true) : worthB (lowb n y.toNat) = unsg n y := by
  obtain ⟨a, b, c⟩ := unsg_ok h2 h
  rw [← c, worth_lowb, Int.emod_eq_of_lt a b]
theorem back {y n : Int} (h2 : 2 ≤ y) (h : inR (some y) n = true) : (if inR (some y) (unsg n y) = true then unsg n y else unsg n y - two y) = n := by
  obtain ⟨a, b⟩ := in_some h
  have p := two_pos (y - 1)
  have e := two_half (y := y) (by omega)
  unfold unsg
  by_cases c : n < 0
  · rw [if_pos c, if_neg]
    · omega
    · intro z
      have := in_some z
      omega
  · rw [if_neg c, if_pos h]
theorem padok {y : Int} (h2 : 2 ≤ y) (h64 : y ≤ 64) : PadOk y = true := by
  have key : ∀ n : Fin 65, PadOk ((n : Nat) : Int) = true := by decide +kernel
  have := key ⟨y.toNat, by omega⟩
  rwa [show (((⟨y.toNat, by omega⟩ : Fin 65) : Nat) : Int) = y by show ((y.toNat : Nat) : Int) = y; omega] at this
theorem int_sign {c : Nat} (h : c = 48 ∨ c = 49) : PySem.intText? ⟨#[c]⟩ = some ((c : Int) - 48) := by
  rcases h with rfl | rfl <;> decide +kernel
theorem Same.of_new {H H' : Hp} {p : Addr} {o : HO} (hp : H p = none) (s : Same (upd H p o) H') : Same H H' := fun b x e => s b x (by rw [upd_ne (ne_of_none e hp)]; exact e)
theorem op_mul_str {X : Cx} : OpR X (binaryOp .Mult) (fun x y H Q => ∃ (z : Str) (n : Int), x = .str z ∧ y = .int n ∧ MulOk z n ∧ Q (.str (Txt.mul z n)) H) := by
  intro pins s σ H x y v u Q I rx ry h
  obtain ⟨z, n, rfl, rfl, ok, q⟩ := h
  obtain ⟨t, rfl⟩ := rx
  obtain ⟨t', rfl⟩ := ry
  exact SB.mul ok fun t' k => ⟨.str (Txt.mul z n), H, I.tok k, ⟨_, rfl⟩, q⟩
section
variable {P : Program} {w : World} {K : PySem.W.Frag} {mg : Str → Option Value} {base : Heap}
theorem sc_Form_bits : FnScope ["self", "word", "number", "text"] ["self", "word"] (defScope s_Form_bits) := ⟨rfl, rfl, rfl, by decide +kernel, rfl, by decide +kernel, by decide +kernel⟩
theorem ok_Form_bits {f : Addr} {fd : FuncData} {C : Addr} (T : FTxt K mg C) {CU fI : Addr} (EC : PySem.ErrX.ErrC K mg "Unfit" CU) (IO : PySem.ErrX.IniOk P w K mg CU fI "at") (F : Fun K "bits" "Form.bits" s_Form_bits f fd) (m_has : CalM P w K mg base 2 C "has" ["self", "thing"] (spHas K C)) : FnOk P w K mg base (L2.CX P w) 3 f fd ["self", "word"] (spBits K C CU) := by
  refine F.okX sc_Form_bits (fun vs H Q E h => ?_) (fun cdv A outer s H vs Q E hr h => ?_)
  · obtain ⟨p, w, pt, m, st, x, rfl, _⟩ := h
    rfl
  · obtain ⟨p, w, pt, m, st, x, rfl, hf, h⟩ := h
    obtain ⟨⟨dx, ho⟩, hw, h0, h1⟩ := id hf
    refine ⟨_, (pss_cons (ps_if (PW.pt (pw_or (pt_cmpR op_isN (pe_fld (pv 0) rfl) pe_non (nomark _)) (pw_or1 (pt_not (pt_val (pe_calm (pv 0) T.cl m_has hr (pa_cons (pv 1) pa_nil))))))) (pss_one (ps_raiseErr rfl EC IO hr (takes_of rfl rfl rfl rfl) (by exact (pa_cons pe_int pa_nil)))) pss_nil)
      (pss_cons (ps_set (i := 2) sc_Form_bits.nd rfl (.inl rfl) (pe_ifExp (pt_cmpR op_ge (pv 1) pe_int (nomark _)) (pv 1) (pe_op op_add (pv 1) (pe_op op_shl pe_int (pe_fld (pv 0) rfl)))))
      (pss_cons (ps_set (i := 3) sc_Form_bits.nd rfl (.inl rfl) (pe_fs1 (pe_fmtB (pv 2) (pe_fs1 pe_str))))
      (pss_one (ps_ret (pe_bm PySem.F.plainAttrs_str PySem.F.slot_str_zfill PySem.F.type_str_zfill mt_zfill (pv 3) (pa_cons (pe_fld (pv 0) rfl) pa_nil))))))), ?_⟩
    rcases h with ⟨y, n, rfl, rfl, hi, q⟩ | ⟨hb, q⟩
    · obtain ⟨y2, y64⟩ := hw y rfl
      obtain ⟨u0, u1, u2⟩ := unsg_ok y2 hi
      refine ⟨_, rfl, p, C, dx, _, _, rfl, ho, T.cl, T.nW, fl_w, rfl, _, rfl, iteF ⟨_, rfl, p, dx, _, rfl, ho, fl_no (by decide +kernel), _, rfl, p, _, pt, m, st, .int n, _, rfl, hf, .inl ⟨n, rfl, hi.symm⟩, _, rfl, iteF ?_⟩⟩
      obtain ⟨u, hu⟩ := Int.eq_ofNat_of_zero_le u0
      have yn : y.toNat = (y - 1).toNat + 1 := by omega
      have ul : u < 2 ^ ((y - 1).toNat + 1) := by
        have : (u : Int) < 2 ^ y.toNat := by rw [← hu]; exact u1
        rw [yn] at this
        exact_mod_cast this
      have fin : ∀ v : Int, v = unsg n y → (fun σ H => (∃ x, σ = [some (V.ref p), some (V.int n), some (V.int v), none] ∧ H = x)) [some (V.ref p), some (V.int n), some (V.int v), none] H := fun v _ => ⟨_, rfl, rfl⟩
      have zf := zfill_bin ul
      have yc : (((y - 1).toNat + 1 : Nat) : Int) = y := by omega
      rw [yc, ← hu, ← yn, u2] at zf
      have bl := binS_len ul
      refine ⟨_, rfl, _, _, rfl, rfl, _, rfl, ite2 (fun c => ?_) (fun c => ?_)⟩
      · have cn : 0 ≤ n := toB c
        have e : n = (u : Int) := by rw [← hu]; unfold unsg; rw [if_neg (by omega)]
        refine ⟨_, rfl, _, rfl, u, congrArg V.int e, rfl, Nat.le_of_lt (small1000' (by omega)), ?_⟩
        refine ⟨_, rfl, rfl, _, rfl, p, C, dx, _, _, rfl, ho, T.cl, T.nW, fl_w, _, _, rfl, rfl, padok y2 y64, ?_⟩
        rw [zf]
        exact q
      · have cn : ¬ 0 ≤ n := toNB c
        have e : n + 1 * 2 ^ y.toNat = (u : Int) := by
          rw [← hu, Int.one_mul]
          unfold unsg
          rw [if_pos (by omega)]
          rfl
        refine ⟨_, rfl, _, rfl, p, C, dx, _, _, rfl, ho, T.cl, T.nW, fl_w, _, _, rfl, rfl, ⟨by omega, by omega, by decide⟩, _, _, rfl, rfl, _, rfl, u, congrArg V.int e, rfl, Nat.le_of_lt (small1000' (by omega)), ?_⟩
        refine ⟨_, rfl, rfl, _, rfl, p, C, dx, _, _, rfl, ho, T.cl, T.nW, fl_w, _, _, rfl, rfl, padok y2 y64, ?_⟩
        rw [zf]
        exact q
    · have fin : ∀ d, H d = none → E (.ref CU) (some d) (upd H d (.xd [("at", .int 0)])) := fun d hd => q d _ (same_new hd) upd_same
      refine ⟨_, rfl, p, C, dx, _, _, rfl, ho, T.cl, T.nW, fl_w, rfl, _, rfl, ?_⟩
      cases w with
      | none => exact iteT ⟨_, rfl, .inr ⟨0, rfl, by decide, by decide⟩, fin⟩
      | some y =>
        rcases hb with hb | hb
        · cases hb
        refine iteF ⟨_, rfl, p, dx, _, rfl, ho, fl_no (by decide +kernel), _, rfl, p, some y, pt, m, st, x, false, rfl, hf, ?_, _, rfl, iteT ⟨_, rfl, .inr ⟨0, rfl, by decide, by decide⟩, fin⟩⟩
        rcases hb with ⟨n, rfl, hn⟩ | hb
        · exact .inl ⟨n, rfl, hn.symm⟩
        · exact .inr ⟨hb, rfl⟩
theorem sc_Form_is_bits : FnScope ["self", "thing", "sign"] ["self", "thing"] (defScope s_Form_is_bits) := ⟨rfl, rfl, rfl, by decide +kernel, rfl, by decide +kernel, by decide +kernel⟩
theorem ok_Form_is_bits {f : Addr} {fd : FuncData} {k : Nat} {C : Addr} (T : FTxt K mg C) (F : Fun K "is_bits" "Form.is_bits" s_Form_is_bits f fd) (z : Zs mg) : FnOk P w K mg base CX0 (k + 1) f fd ["self", "thing"] (spIsBits K C) := by
  refine F.ok sc_Form_is_bits (fun vs H Q E h => ?_) (fun cdv A outer s H vs Q E hr h => ?_)
  · obtain ⟨p, w, pt, m, st, x, b, rfl, _⟩ := h
    rfl
  · obtain ⟨p, w, pt, m, st, x, b, rfl, hf, hx, q⟩ := h
    obtain ⟨⟨dx, ho⟩, hw, h0, h1⟩ := id hf
    refine ⟨_, (pss_cons (ps_if (PW.pt (pw_or (pt_cmpR op_isN (pe_fld (pv 0) rfl) pe_non (nomark _)) (pw_or (pt_not (pt_val (pe_callB call_isi (by rfl) z.isinstance (by decide +kernel) (pa_cons (pv 1) (pa_cons (pe_bltn (v := .ty "str") (by rfl) z.str (by decide +kernel) rfl) pa_nil))))) (pw_or1 (pt_cmpR op_ne (pe_callB call_len_str (by rfl) z.len PySem.boot_len (pa_cons (pv 1) pa_nil)) (pe_fld (pv 0) rfl) (nomark _)))))) (pss_one (ps_ret pe_bl)) pss_nil)
      (pss_one (ps_ret (pe_callB (cr_all rfl) (by rfl) z.all (by decide +kernel) (pa_cons (pe_lc (own := [("sign", 2)]) (g := gName 2) (tt := tYes) (te := tOp (fun x y H Q => ∃ (c : Nat) (z : Str), x = .str ⟨#[c]⟩ ∧ y = .str z ∧ Q (.bl (decide (c ∈ z.cps.toList))) H) (tVar 2) (tC (.str "01"))) (by rfl) sc_Form_is_bits.nd (pi_str (pv 1)) (blkOk_by (own := [("sign", 2)]) (N := ["self", "thing", "sign"]) (sc := defScope s_Form_is_bits) (by decide +kernel)) (fun _ _ _ _ _ => by exact (pg_name (i := 2) sc_Form_is_bits.nd rfl (.inl rfl))) (fun _ _ _ _ _ => by exact pts_nil) (fun _ _ _ _ _ => by exact (pe_cmpR op_in_sign (pv 2) pe_str (by rfl)))) pa_nil))))), ?_⟩
    rcases hx with ⟨rfl, rfl⟩ | ⟨y, l, rfl, rfl, hl, rfl⟩ | ⟨rfl, t, ty, kt⟩
    · exact ⟨_, rfl, p, C, dx, _, _, rfl, ho, T.cl, T.nW, fl_w, rfl, _, rfl, iteT (q _ (Same.refl _))⟩
    · refine ⟨_, rfl, p, C, dx, _, _, rfl, ho, T.cl, T.nW, fl_w, rfl, _, rfl, iteF ⟨_, rfl, _, .ty "str", _, _, true, rfl, .ty _, .base (.str _), kit_ty (by decide +kernel), _, rfl, iteF ⟨_, rfl, _, rfl, (by rw [txt_len]; exact Nat.le_of_lt (small1000' hl)), _, rfl, p, C, dx, _, _, rfl, ho, T.cl, T.nW, fl_w, rfl, _, rfl, ?_⟩⟩⟩
      rw [txt_len]
      by_cases hc : (l.length : Int) = y
      · refine iteC (d := false) (by show (!decide (V.int (l.length : Int) = V.int y)) = false; rw [decide_eq_true (congrArg V.int hc)]; rfl) (iteF ?_)
        refine ⟨_, rfl, _, rfl, fun Da hD => ?_⟩
        refine lc_it (walk_str (z := txt l)) (fun i H4 => Same H H4 ∧ H4 Da = some (.lst ((l.take i).map fun c => V.bl (c == 48 || c == 49)))) ⟨same_new hD, upd_same⟩ (fun _ _ _ _ => trivial) (fun i x' H4 H5 hi hP hy => ?_) (fun H4 hP => ?_)
        · obtain ⟨s4, hD4⟩ := hP
          obtain ⟨rfl, c, hcc, rfl⟩ := hy
          have hcl : l[i]? = some c := by
            have e : (txt l).cps[i]? = l[i]? := by simp [txt]
            rw [← e]
            exact hcc
          refine ⟨rfl, _, rfl, c, _, rfl, rfl, ?_⟩
          refine ⟨_, hD4, ?_, fun b' o' e' => ?_, ?_⟩
          · rw [List.length_map, List.length_take]
            exact small1000' (by omega)
          · rw [upd_ne (ne_of_none e' hD)]
            exact s4 _ _ e'
          · rw [upd_same, List.take_add_one, hcl, List.map_append]
            refine congrArg (fun b => some (HO.lst (_ ++ [V.bl b]))) ?_
            show decide (c ∈ [48, 49]) = (c == 48 || c == 49)
            by_cases h48 : c = 48
            · subst h48; rfl
            · by_cases h49 : c = 49
              · subst h49; rfl
              · simp [h48, h49]
        · obtain ⟨s4, hD4⟩ := hP
          have e : (txt l).cps.size = l.length := by simp [txt]
          rw [e, List.take_length] at hD4
          refine ⟨Da, l.map (fun c => c == 48 || c == 49), rfl, SqL.of (by rw [hD4, List.map_map]; rfl), ?_⟩
          rw [List.all_map]
          have := q _ s4
          rw [decide_eq_true hc, Bool.true_and] at this
          exact this
      · refine iteC (d := true) (by show (!decide (V.int (l.length : Int) = V.int y)) = true; rw [decide_eq_false (fun z => hc (V.int.inj z))]; rfl) (iteT ?_)
        have := q _ (Same.refl _)
        rw [decide_eq_false hc, Bool.false_and] at this
        exact this
    · refine ⟨_, rfl, p, C, dx, _, _, rfl, ho, T.cl, T.nW, fl_w, rfl, _, rfl, ?_⟩
      cases w with
      | none => exact iteT (q _ (Same.refl _))
      | some y => exact iteF ⟨_, rfl, _, .ty "str", _, _, false, rfl, .ty _, ty, kit_ty kt, _, rfl, iteT (q _ (Same.refl _))⟩
theorem sc_Form_word_of : FnScope ["self", "bits", "number", "sign"] ["self", "bits"] (defScope s_Form_word_of) := ⟨rfl, rfl, rfl, by decide +kernel, rfl, by decide +kernel, by decide +kernel⟩
theorem ok_Form_word_of {f : Addr} {fd : FuncData} {C : Addr} (T : FTxt K mg C) {CT fI : Addr} (EC : PySem.ErrX.ErrC K mg "NoText" CT) (IO : PySem.ErrX.IniOk P w K mg CT fI "line") (F : Fun K "word_of" "Form.word_of" s_Form_word_of f fd) (z : Zs mg) (m_has : CalM P w K mg base 2 C "has" ["self", "thing"] (spHas K C)) (m_is_bits : CalM P w K mg base 1 C "is_bits" ["self", "thing"] (spIsBits K C)) : FnOk P w K mg base (L2.CX P w) 3 f fd ["self", "bits"] (spWordOf K C CT) := by
  refine F.okX sc_Form_word_of (fun vs H Q E h => ?_) (fun cdv A outer s H vs Q E hr h => ?_)
  · obtain ⟨p, w, pt, m, st, x, rfl, _⟩ := h
    rfl
  · obtain ⟨p, w, pt, m, st, x, rfl, hf, h⟩ := h
    obtain ⟨⟨dx, ho⟩, hw, h0, h1⟩ := id hf
    refine ⟨_, (pss_cons (ps_if (pt_not (pt_val (pe_calm (pv 0) T.cl m_is_bits hr (pa_cons (pv 1) pa_nil)))) (pss_one (ps_raiseErr rfl EC IO hr (takes_of rfl rfl rfl rfl) (by exact (pa_cons pe_int pa_nil)))) pss_nil)
      (pss_cons (ps_set (i := 2) sc_Form_word_of.nd rfl (.inl rfl) pe_int)
      (pss_cons (ps_for (passes_of rfl) rfl (pi_str (pv 1)) (pg_name (i := 3) sc_Form_word_of.nd rfl (.inl rfl)) (pss_one (ps_set (i := 2) sc_Form_word_of.nd rfl (.inl rfl) (pe_op op_add (pe_op op_mul pe_int (pv 2)) (pe_callTy call_int_str (by rfl) z.int (by decide +kernel) (pa_cons (pv 3) pa_nil))))))
      (pss_one (ps_ret (pe_ifExp (pt_val (pe_calm (pv 0) T.cl m_has hr (pa_cons (pv 2) pa_nil))) (pv 2) (pe_op op_sub (pv 2) (pe_op op_shl pe_int (pe_fld (pv 0) rfl))))))))), ?_⟩
    rcases h with ⟨y, n, rfl, rfl, hi, q⟩ | ⟨hb, q⟩
    · obtain ⟨y2, y64⟩ := hw y rfl
      have ln := lowb_len y.toNat n
      refine ⟨_, rfl, p, dx, _, rfl, ho, fl_no (by decide +kernel), _, rfl, p, _, pt, m, st, _, true, rfl, hf, .inr (.inl ⟨y, _, rfl, rfl, by omega, ?_⟩), fun H1 s1 => ⟨_, rfl, iteF ?_⟩⟩
      · rw [ln, decide_eq_true (show ((y.toNat : Nat) : Int) = y by omega), Bool.true_and]
        symm
        rw [List.all_eq_true]
        intro c hc
        rcases lowb_bit _ _ c hc with rfl | rfl <;> rfl
      · have f1 := hf.same s1
        have ho1 := s1 _ _ ho
        generalize hl : lowb n y.toNat = l at *
        have lb : ∀ c ∈ l, c = 48 ∨ c = 49 := fun c hc => lowb_bit y.toNat n c (by rw [hl]; exact hc)
        have sz : (txt l).cps.size = l.length := by simp [txt]
        refine ⟨_, rfl, _, rfl, for_it (walk_str (z := txt l)) (fun i σ H' => ∃ yy : Option V, σ = [some (.ref p), some (.str (txt l)), some (.int (worthB (l.take i))), yy] ∧ H' = H1) ⟨none, rfl, rfl⟩ (fun _ _ _ _ _ => trivial) (fun i x' σ H4 H5 hi' hP hy => ?_) (fun σ H4 hP => ?_)⟩
        · obtain ⟨yy, rfl, rfl⟩ := hP
          obtain ⟨rfl, c, hcc, rfl⟩ := hy
          have hcl : l[i]? = some c := by
            have e : (txt l).cps[i]? = l[i]? := by simp [txt]
            rw [← e]
            exact hcc
          have c48 := lb c (List.mem_of_getElem? hcl)
          refine ⟨_, rfl, _, _, rfl, rfl, .inl ⟨by decide, by decide⟩, _, rfl, ⟨#[c]⟩, _, rfl, int_sign c48, (by show 1 ≤ 640; decide), _, _, rfl, rfl, ⟨some (V.str ⟨#[c]⟩), ?_, rfl⟩⟩
          rw [List.take_add_one, hcl]
          show [some (V.ref p), some (V.str (txt l)), some (V.int (2 * worthB (l.take i) + ((c : Int) - 48))), some (V.str ⟨#[c]⟩)] = [some (V.ref p), some (V.str (txt l)), some (V.int (worthB (l.take i ++ [c]))), some (V.str ⟨#[c]⟩)]
          rw [worthB_snoc]
        · obtain ⟨yy, rfl, rfl⟩ := hP
          rw [sz, List.take_length, ← hl, worth_unsg y2 hi]
          have bk := back y2 hi
          refine ⟨_, rfl, p, dx, _, rfl, ho1, fl_no (by decide +kernel), _, rfl, p, some y, pt, m, st, _, _, rfl, f1, .inl ⟨_, rfl, rfl⟩, _, rfl, ?_⟩
          by_cases c : inR (some y) (unsg n y) = true
          · rw [if_pos c] at bk
            refine iteC (d := true) c (iteT ⟨_, rfl, ?_⟩)
            rw [bk]
            exact q _ s1
          · rw [if_neg c] at bk
            refine iteC (d := false) (by simpa using c) (iteF ⟨_, rfl, _, rfl, p, C, dx, _, _, rfl, ho1, T.cl, T.nW, fl_w, _, _, rfl, rfl, ⟨by omega, by omega, by decide⟩, _, _, rfl, rfl, ?_⟩)
            show Q (.int (unsg n y - 1 * 2 ^ y.toNat)) _
            rw [Int.one_mul, show unsg n y - 2 ^ y.toNat = n from bk]
            exact q _ s1
    · refine ⟨_, rfl, p, dx, _, rfl, ho, fl_no (by decide +kernel), _, rfl, p, _, pt, m, st, _, false, rfl, hf, hb, fun H1 s1 => ⟨_, rfl, iteT ⟨_, rfl, .inr ⟨0, rfl, by decide, by decide⟩, fun d hd => q d _ (s1.trans (same_new hd)) upd_same⟩⟩⟩
end
end E1

namespace E1
open PySem PySem.Spec PyProof.Rows L2

/-! ### kinds of things -/
inductive Kd (H : Hp) : V → String → Prop where
  | int (n : Int) : Kd H (.int n) "int"
  | bl (b : Bool) : Kd H (.bl b) "bool"
  | str (y : Str) : Kd H (.str y) "str"
  | non : Kd H .non "NoneType"
  | tup {p : Addr} {xs : List V} (e : H p = some (.tup xs)) : Kd H (.ref p) "tuple"
  | lst {p : Addr} {xs : List V} (e : H p = some (.lst xs)) : Kd H (.ref p) "list"
  | dK {p : Addr} {kv : List (Key × V)} (e : H p = some (.dK kv)) : Kd H (.ref p) "dict"
theorem Kd.ty {K : PySem.W.Frag} {H : Hp} {x : V} {t : String} (h : Kd H x t) : TyX K H x (.type t) := by
  cases h with
  | int n => exact .base (.int n)
  | bl b => exact .base (.bl b)
  | str y => exact .base (.str y)
  | non => exact .base .non
  | tup e => exact .base (.tup e)
  | lst e => exact .base (.lst e)
  | dK e => exact .base (.dK e)
theorem Kd.there {H : Hp} {x : V} {t : String} {p : Addr} (h : Kd H x t) (e : x = .ref p) : ∃ o, H p = some o := by
  cases h with
  | int n => cases e
  | bl b => cases e
  | str y => cases e
  | non => cases e
  | tup q => cases e; exact ⟨_, q⟩
  | lst q => cases e; exact ⟨_, q⟩
  | dK q => cases e; exact ⟨_, q⟩
/-- what a thing refers to stays -/
def StaysV (H H' : Hp) (x : V) : Prop := ∀ p o, x = .ref p → H p = some o → (∀ ps, o ≠ .tbl ps) → H' p = some o
theorem Kd.keep {H H' : Hp} {x : V} {t : String} (h : Kd H x t) (k : StaysV H H' x) : Kd H' x t := by
  cases h with
  | int n => exact .int n
  | bl b => exact .bl b
  | str y => exact .str y
  | non => exact .non
  | tup e => exact .tup (k _ _ rfl e (fun _ z => by cases z))
  | lst e => exact .lst (k _ _ rfl e (fun _ z => by cases z))
  | dK e => exact .dK (k _ _ rfl e (fun _ z => by cases z))
theorem StaysV.of {H H' : Hp} {x : V} (s : Same H H') : StaysV H H' x := fun p o _ e _ => s p o e
theorem StaysV.but {H H' : Hp} {a : Addr} {x : V} (s : SameBut a H H') (n : x ≠ .ref a) : StaysV H H' x := fun p o e1 e2 _ => s p o (fun z => n (by rw [e1, z])) e2
theorem StaysV.ext {H H' : Hp} {x : V} (s : LamX.ExtN H H') : StaysV H H' x := fun p o _ e n => s p o e n
theorem StaysV.trans {H H1 H2 : Hp} {x : V} (a : StaysV H H1 x) (b : StaysV H1 H2 x) : StaysV H H2 x := fun p o e1 e2 n => b p o e1 (a p o e1 e2 n) n
theorem StaysV.nr {H H1 : Hp} {x : V} (h : ∀ p, x ≠ .ref p) : StaysV H H1 x := fun p o e1 _ _ => absurd e1 (h p)
/-! ### calls within a lambda that may raise -/
section
variable {X : Cx} {k j : Nat} {C : Addr} {m x : Str} {ps ks : List Str} {dvs : List V} {sp : Sp} {o e : Expr} {es : List Expr} {ta : TE} {t tk : TA} {apos p pos : Pos} {gV : List V → List V → List V} {kws : List Keyword} {E : XK}
def CalCX (P : Program) (w : World) (K : PySem.W.Frag) (mg : Str → Option Value) (base : Heap) (k : Nat) (x : Str) (C : Addr) (ps : List Str) (dvs : List V) (sp : Sp) : Prop :=
  ∃ (f : Addr) (fd : FuncData) (ds : List Value), Mk K C f ∧ mg x = some (.ref C) ∧ Vals dvs ds ∧ Binds K fd ps ds ∧ FnOk P w K mg base (L2.CX P w) k f fd ps sp
def CalCXK (P : Program) (w : World) (K : PySem.W.Frag) (mg : Str → Option Value) (base : Heap) (k : Nat) (x : Str) (C : Addr) (ps : List Str) (n : Nat) (ks : List Str) (gV : List V → List V → List V) (sp : Sp) : Prop :=
  ∃ (f : Addr) (fd : FuncData) (g : List Value → List Value → List Value), Mk K C f ∧ mg x = some (.ref C) ∧ KBn K fd ps (n + 1) ks g gV ∧ FnOk P w K mg base (L2.CX P w) k f fd ps sp
theorem pe_calcX (h : CalCX X.prog X.w X.K X.mg X.base k x C ps dvs sp) (hr : Room j X.A) (tk : Takes X (fun cls d _ H => E cls d H)) (ha : PA X (e :: es) t) (hle : k + 1 ≤ j := by decide) (hg : Gl X x := by rfl)
    (hdb : (x == ("__debug__" : Str)) = false := by decide) (he : starEach (e :: es) X.env = (false, eval e X.env) :: starEach es X.env := by rfl) (hpl : (backTo pos (starEach es X.env)).any (·.1) = false := by rfl) :
    PE X (.Call (.Name x p) (e :: es) [] pos) (tMake C sp dvs E t) := by
  obtain ⟨f, fd, ds, h1, h2, h3, h4, h5⟩ := h
  exact pe_make h1 h5 (hr.mono hle) hg h2 h4 h3 (passes_call tk (fun _ _ _ _ h => h)) ha hdb he hpl
theorem pe_calcX0 (h : CalCXK X.prog X.w X.K X.mg X.base k x C ps 0 ks gV sp) (hr : Room j X.A) (tk' : Takes X (fun cls d _ H => E cls d H)) (hkw : PK X kws tk) (hle : k + 1 ≤ j := by decide) (hg : Gl X x := by rfl)
    (hall : (backToKw pos (keywordEach kws X.env)).all (·.1.isSome) = true := by rfl) (hks : (backToKw pos (keywordEach kws X.env)).filterMap (·.1) = ks := by rfl)
    (hdb : (x == ("__debug__" : Str)) = false := by decide)
    (hpl : ((backTo pos (starEach [] X.env)).any (·.1) || (backToKw pos (keywordEach kws X.env)).any (·.1.isNone)) = false := by rfl) :
    PE X (.Call (.Name x p) [] kws pos) (tMakeN C 0 ks.length sp gV E tNil tk) := by
  obtain ⟨f, fd, g, h1, h2, h3, h4⟩ := h
  refine ⟨fun pins s σ H Q I h => ?_⟩
  refine wpAny_Call_Name_kw (ld_glob I hg h2 ?_ hdb)
  refine PySem.W.callWith_KW0 (h₀ := X.base) I.ok.mod.kin h1.kp hall (thn (hkw.run pos pins s σ H _ I h) fun ws s2 ⟨zs, H2, I2, rz, l1, l2, q2⟩ => ⟨I2.kIn, ?_⟩) hpl
  rw [hks]
  exact run_makeN (vs := []) (us := []) h1 h4 (hr.mono hle) h3 (passes_call tk' (fun _ _ _ _ h => h)) I2 .nil rz l1 l2 q2
/-- the error passes on out of the lambda -/
theorem takesLam {X : Cx} {A : Around} {outer : List Env} {s : Shared} {H : Hp} {E : XK} {scope : Scope} {f c' : Addr} : Takes (LamX.lamCx X A outer s H E scope f c') (fun cls d _ H => E cls d H) := takes_of rfl rfl rfl rfl
end
/-! ### a lambda called by the def that got it, with that def's own slots in what it wants of errors -/
section
variable {X : Cx}
abbrev lamQ (X : Cx) : Str := X.env.qual ++ "<lambda>"
abbrev lamOb (X : Cx) (pr : Arguments) (bd : Expr) (sc : Scope) (nm : Value) (cd : Addr) (ctx : Value) : Obj := PySem.W.kla_obj "<lambda>" (lamQ X) pr bd sc (cloFrom X.env.cells sc.names []) nm cd ctx
/-- the context of the def at g, called from X at state s -/
abbrev gotCx (X : Cx) (Ng : List Str) (qg : Str) (sg : Scope) (g : Addr) (cdg : Value) (s : Shared) (H : Hp) : Cx := cxOf C8.CX0 X.prog X.w X.K X.mg X.base Ng qg sg g cdg X.A X.stack s H C8.E0
theorem pe_actS {pins : List (Addr × Obj)} {σ : L2.St} {H : Hp} {s : Shared} {Ng : List Str} {qg : Str} {sg : Scope} {g fl cd : Addr} {cdg nm ctx : Value} {pr : Arguments} {bd : Expr} {sc : Scope} {k i : Nat} {a : Str} {pn : List (Addr × Obj)} {xe : Value → Shared → Prop} {W : WX} {t : XK → TE} {p1 p2 : Pos}
    (I : Inv X pins σ H s) (L : LamX.LamS X.env.scope sc) (ho : s.heap.get? fl = some (lamOb X pr bd sc nm cd ctx)) (hn : H fl = none) (hs : fl ∉ frs X.stack)
    (hb : bindArgs (PySem.W.kla_fn "<lambda>" (lamQ X) pr bd sc (cloFrom X.env.cells sc.names []) nm (.ref cd) ctx) ⟨[], []⟩ = pure [])
    (tk : Takes ((gotCx X Ng qg sg g cdg s H).tr pn xe) W) (rm : Room (k + 1) (X.A.deeper (envOfC qg sg s.heap.objs.size g cdg)))
    (hbd : ∀ (E : XK) (A : Around) (out : List Env) (s : Shared) (H : Hp), Room k (A.deeper (LamX.lamEnv X sc s.heap.objs.size fl cd)) → PE (LamX.lamCx X A out s H E sc fl cd) bd (t E))
    (hN : Ng[i]? = some a) (hv : Vis sg a) (h1 : (a == ("__debug__" : Str)) = false := by decide) (h2 : (a == ("__classdict__" : Str)) = false := by decide) :
    PE ((gotCx X Ng qg sg g cdg s H).tr pn xe) (.Call (.Name a p1) [] [] p2)
      (fun τ G Q => τ[i]? = some (some (.ref fl)) ∧ G cd = some (LamX.CodeO cd (lamQ X)) ∧ t (WE W τ) σ G Q) := by
  constructor
  intro pz sz τ G Q J ⟨hτ, hG, ht⟩
  have nameRun := (pe_var (X := (gotCx X Ng qg sg g cdg s H).tr pn xe) (pos := p1) (i := i) hN hv h1 h2).run pz sz τ G (fun v G' => v = .ref fl ∧ G' = G) J ⟨.ref fl, hτ, rfl, rfl⟩
  refine wpAny_Call_Name_kw (thn nameRun fun u s1 ⟨v, G', J1, rv, ev, eG⟩ => ?_)
  subst ev eG
  obtain rfl : u = Value.ref fl := rv
  have obj1 := J1.base.keep fl _ ho hn hs (fun z => absurd z (by simp [gotCx, cxOf, Cx.tr]))
  refine PySem.W.callWith_F0 ⟨_, _, _, _, obj1⟩ ?_
  have old : Un (frs X.stack) [] H G' s.heap s1.heap := J1.base
  obtain ⟨⟨oc, vs, tk9, hoc, hdc, hvc⟩, _, _⟩ := J1.hok cd _ hG
  have through : codeAny (model X.prog X.w) (X.A.deeper (envOfC qg sg s.heap.objs.size g cdg)) (.call (.ref fl) ⟨[], []⟩)
      (CR (L2.CX X.prog X.w) (envOfC qg sg s.heap.objs.size g cdg :: X.stack) X.prog X.w G' s1 Q (WE W τ)) s1 := by
    refine PySem.W.kla_callFunE rm.depth obj1 rfl L.co L.gen rfl ⟨cd, oc, vs, tk9, rfl, hoc, hdc, hvc⟩ ?_
    rw [hb]
    refine wpAny_pure (wpAny_newFunctionEnv (fun y m => (L.own y m).2) (fun y m => absurd m (by simp)) (fun hp ns sb => ⟨J1.nolimit.fresh _ sb, ?_⟩) L.kind)
    show codeAny _ _ (.expr bd (LamX.lamEnv X sc s1.heap.objs.size fl cd)) _ _
    have still : ∀ b o, s1.heap.get? b = some o → hp.get? b = some o := fun b o e => sb.extBut b o (Nat.ne_of_lt (Heap.lt_size e)) (Heap.get?_push_of_some _ e)
    have J2 := LamX.lam_start2 (E := WE W τ) (f := fl) (c' := cd) (tk := s1.toks + ([] : List (Str × Value)).length) I L J1.env0 rm.hd old ns still
    refine PySem.W.kla_codeExpr (wpAny_mono ((hbd (WE W τ) _ _ s1 G' (rm.deeper _)).run [] _ _ G' Q J2 ht) (fun v s' ⟨v', G2, J3, rv, qv⟩ => ⟨v', G2, J3.os, J3.bare, J3.base, J3.hok, rv, qv⟩) fun e s' hq => hq)
  have pass := passAt tk τ
  refine wpAny_call (codeAny_mono through fun r s' hq => ?_)
  match r, hq with
  | .error e, hq => exact pass pz G' s1 e s' J1 hq
  | .ok (.ret u), hq => exact J1.after hq
  | .ok .next, hq => exact hq.elim
  | .ok .brk, hq => exact hq.elim
  | .ok .cont, hq => exact hq.elim
/-- the def that calls what it got; TT: what it makes of the lambda's reading -/
def GivesS (X : Cx) (Ng : List Str) (x : Str) (sg : Scope) (g : Addr) (cdg : Value) (bg : List Stmt) (a : Str) (TT : (XK → Hp → VK → Prop) → Hp → VK → Prop) : Prop :=
  ∀ (fl cd : Addr) (s : Shared) (H : Hp) (Q : VK) (tl : XK → Hp → VK → Prop),
    (∀ (W : WX) (pn : List (Addr × Obj)) (xe : Value → Shared → Prop) (p1 p2 : Pos), Takes ((gotCx X Ng x sg g cdg s H).tr pn xe) W →
      PE ((gotCx X Ng x sg g cdg s H).tr pn xe) (.Call (.Name a p1) [] [] p2) (fun τ G Q => τ[0]? = some (some (.ref fl)) ∧ G cd = some (LamX.CodeO cd (lamQ X)) ∧ tl (WE W τ) G Q)) →
    H cd = some (LamX.CodeO cd (lamQ X)) → TT tl H Q →
    ∃ t, PSs (gotCx X Ng x sg g cdg s H).nox bg t ∧ t { nx := fun _ H' => Q .non H', rt := Q } (L2.start Ng [.ref fl]) H
/-- a def of the text that is handed a lambda -/
structure GotFn (K : PySem.W.Frag) (mg : Str → Option Value) (x a : Str) (st : Stmt) (Ng : List Str) (g : Addr) (cdg : Value) : Prop where
  gm : mg x = some (.ref g)
  kp : PySem.W.keepIn K (.ref g) = true
  fn : ∃ (oc : Value) (od : Option Addr) (dV kV doc pm ct : Value) (an : Option Addr) (osl : Array (Option Value)),
    K.lookup g = some ⟨oc, od, .func (PySem.W.fnOf x x (defArgs st) (defBody st) (defScope st) dV kV doc pm an cdg ct), osl⟩ ∧ L2.Binds K (PySem.W.fnOf x x (defArgs st) (defBody st) (defScope st) dV kV doc pm an cdg ct) [a] []
  cd : PySem.W.codeIn K cdg x = true
  sc : FnScope Ng [a] (defScope st)
  n0 : Ng[0]? = some a
  vs : Vis (defScope st) a
theorem pe_lamS {T : List (Addr × Str)} {TT : (XK → Hp → VK → Prop) → Hp → VK → Prop} {x a : Str} {g c P : Addr} {k j : Nat} {st : Stmt} {cdg : Value} {Ng : List Str} {pr : Arguments} {bd : Expr} {sc : Scope} {t : XK → TE} {p lp pos : Pos}
    (G : GotFn X.K X.mg x a st Ng g cdg) (hG : GivesS X Ng x (defScope st) g cdg (defBody st) a TT) (TB : LamX.TabB X.base X.mg c P) (rm : Room j X.A)
    (hbd : ∀ (E : XK) (A : Around) (out : List Env) (s : Shared) (H : Hp) (fl cd : Addr), Room k (A.deeper (LamX.lamEnv X sc s.heap.objs.size fl cd)) → PE (LamX.lamCx X A out s H E sc fl cd) bd (t E))
    (hc : X.env.code = .ref c := by rfl) (hm : (P, lamQ X) ∈ T := by exact List.mem_cons_self) (hu : ∀ p ∈ T, p.1 = P → p.2 = lamQ X := by (intro p hp _; cases List.mem_singleton.mp hp; rfl)) (L : LamX.LamS X.env.scope sc := by exact LamX.lamS_by (by decide +kernel)) (hd : defaultsOf pr X.env = ([], []) := by rfl)
    (hb : ∀ (q : Str) (cl : List (Str × Addr)) (nm cv ctx : Value), bindArgs (PySem.W.kla_fn "<lambda>" q pr bd sc cl nm cv ctx) ⟨[], []⟩ = pure [] := by intros; rfl)
    (hle : k + 2 ≤ j := by decide) (hg : Gl X x := by rfl) (h0 : (x == ("__debug__" : Str)) = false := by decide) (h1 : (a == ("__debug__" : Str)) = false := by decide) (h2 : (a == ("__classdict__" : Str)) = false := by decide) :
    PE X (.Call (.Name x p) [.Lambda pr bd sc lp] [] pos) (LamX.tLam T TT t) := by
  constructor
  intro pins s σ H Q I ⟨hT, h⟩
  obtain ⟨oc, od, dV, kV, doc, pm, ct, an, osl, lk, bnd⟩ := G.fn
  refine wpAny_Call_Name_kw (ld_glob I hg G.gm ?_ h0)
  refine PySem.W.callWith_K (h₀ := X.base) I.ok.mod.kin G.kp ?_ (by rfl) (by rfl)
  show wpAny _ _ (spliced ((false, eval (.Lambda pr bd sc lp) X.env) :: backTo pos (starEach [] X.env))) _ _ s
  refine Calls.spliced_cons (LamX.lam_make2 I TB hc hm hu hT hd (L.has I.ok) fun fl cd nm ctx H1 s1 I1 en T1 ho hn hs hco => Calls.spliced_nil ⟨I1.kIn, ?_⟩)
  have through : codeAny (model X.prog X.w) X.A (.call (.ref g) ⟨[.ref fl], []⟩) (CR C8.CX0 X.stack X.prog X.w H1 s1 Q C8.E0) s1 := by
    refine LamX.run_ofS (k := k + 1) (us := [.ref fl]) (vs := [.ref fl]) lk G.cd G.sc (rm.mono hle) I1.env0 (bnd s1 [.ref fl] I1.kIn rfl) (.cons rfl .nil) rfl fun rm' => ?_
    obtain ⟨t', ps', q'⟩ := hG fl cd s1 H1 Q (fun E G' Q' => t E σ G' Q') (fun W pn xe p1 p2 tk => pe_actS (i := 0) I1 L ho hn hs (hb _ _ _ _ _) tk rm' (fun E A out s H r => hbd E A out s H fl cd r) G.n0 G.vs h1 h2) hco (h H1 en T1)
    exact ⟨t', ps'.nox, q'⟩
  refine wpAny_call (codeAny_mono through fun r s2 hq => ?_)
  match r, hq with
  | .error e, hq => exact (show False from hq).elim
  | .ok (.ret u), hq => exact I1.after hq
  | .ok .next, hq => exact hq.elim
  | .ok .brk, hq => exact hq.elim
  | .ok .cont, hq => exact hq.elim
end

/-- a def of the text with its code object -/
structure FunC (K : PySem.W.Frag) (x : Str) (st : Stmt) (f : Addr) (fd : FuncData) (c : Addr) : Prop where
  ex : ∃ (oc : Value) (od : Option Addr) (kV doc pm : Value) (an : Option Addr) (ct : Value) (osl : Array (Option Value)),
    fd = PySem.W.fnOf x x (defArgs st) (defBody st) (defScope st) .none kV doc pm an (.ref c) ct ∧ K.lookup f = some ⟨oc, od, .func fd, osl⟩ ∧ PySem.W.codeIn K (.ref c) x = true
theorem FunC.ok {P : Program} {w : World} {K : PySem.W.Frag} {mg : Str → Option Value} {base : Heap} {x : Str} {st : Stmt} {f c : Addr} {fd : FuncData} {N ps : List Str} {k : Nat} {sp : Sp} (F : FunC K x st f fd c) (S : FnScope N ps (defScope st)) (len : ∀ vs H Q E, sp vs H Q E → vs.length = ps.length)
    (hb : ∀ (A : Around) (out : List Env) (s : Shared) (H : Hp) (vs : List V) (Q : VK) (E : XK), Room k (A.deeper (envOfC x (defScope st) s.heap.objs.size f (.ref c))) → sp vs H Q E →
      ∃ t, PSs (cxOf CX0 P w K mg base N x (defScope st) f (.ref c) A out s H E).nox (defBody st) t ∧ t { nx := fun _ H' => Q .non H', rt := Q } (start N vs) H) : FnOk P w K mg base CX0 (k + 1) f fd ps sp := by
  obtain ⟨oc, od, kV, doc, pm, an, ct, osl, rfl, lk, hcd⟩ := F.ex
  exact fn_of lk hcd S len fun A out s H vs Q E hr hsp => let ⟨t, h, q⟩ := hb A out s H vs Q E hr hsp; ⟨t, h.nox, q⟩
theorem got_of {K : PySem.W.Frag} {mg : Str → Option Value} {x a : Str} {st : Stmt} {Ng : List Str} {g : Addr} {fd : FuncData} (F : Fun K x x st g fd) (gm : mg x = some (.ref g)) (b : Binds K fd [a] []) (sc : FnScope Ng [a] (defScope st)) (n0 : Ng[0]? = some a) (vs : Vis (defScope st) a) : ∃ cdg, GotFn K mg x a st Ng g cdg := by
  obtain ⟨oc, od, kV, doc, pm, an, cdv, ct, osl, rfl, lk, hcd⟩ := F.ex
  exact ⟨cdv, gm, F.kp, ⟨_, _, _, _, _, _, _, _, _, lk, b⟩, hcd, sc, n0, vs⟩

end E1

namespace E1
open PySem PySem.Spec PyProof.Rows L2

def spLBits : Sp := fun vs H Q _ => ∃ n y : Int, vs = [.int n, .int y] ∧ 0 ≤ y ∧ y ≤ 64 ∧ Q (.str (txt (lowb n y.toNat))) H
/-- no bits of so many signs -/
def NotB (k : Nat) (l : List Nat) : Prop := l.length ≠ k ∨ ∃ c ∈ l, c ≠ 48 ∧ c ≠ 49
def spSpoil : Sp := fun vs H Q _ => ∃ (l : List Nat) (a : Addr) (c : Int), vs = [.str (txt l), .ref a] ∧ WellAt H a c ∧ c ≤ 100000 ∧ 2 ≤ l.length ∧ l.length ≤ 64 ∧ ∀ (l' : List Nat) (H' : Hp), NotB l.length l' → l'.length ≤ 100 → SameBut a H H' → WellAt H' a (c + 3) → Q (.str (txt l')) H'
theorem NotB.is {K : PySem.W.Frag} {H : Hp} {y : Int} {l : List Nat} (h : NotB y.toNat l) (h1 : l.length ≤ 1000) (hy : 0 ≤ y) : BitsIs K H (some y) (.str (txt l)) false := by
  refine .inr (.inl ⟨y, l, rfl, rfl, h1, ?_⟩)
  rcases h with h | ⟨c, hc, h48, h49⟩
  · rw [decide_eq_false (by omega), Bool.false_and]
  · symm
    rw [Bool.and_eq_false_iff]
    right
    rw [List.all_eq_false]
    exact ⟨c, hc, by simp [h48, h49]⟩
theorem cut_to {l : List Nat} {k : Nat} : cutS (txt l) none (some (k : Int)) = txt (l.take k) := by
  unfold cutS
  rw [HT.sIx_none, HT.sIx_nat, txt_len, txt_list, List.drop_zero, Nat.sub_zero]
  show txt (l.take (min k l.length)) = _
  rw [← List.take_eq_take_min]
theorem cut_from {l : List Nat} {k : Nat} : cutS (txt l) (some (k : Int)) none = txt (l.drop k) := by
  unfold cutS
  rw [HT.sIx_none, HT.sIx_nat, txt_len, txt_list]
  show txt ((l.drop (min k l.length)).take (l.length - min k l.length)) = _
  rw [List.take_of_length_le (by rw [List.length_drop]; omega)]
  by_cases h : k ≤ l.length
  · rw [Nat.min_eq_left h]
  · rw [Nat.min_eq_right (by omega), List.drop_eq_nil_of_le (Nat.le_refl _), List.drop_eq_nil_of_le (by omega)]
theorem sign12 {r : Int} (h0 : 0 ≤ r) (h1 : r < 12) : ∃ c : Nat, atI [V.str "2", V.str " ", V.str "-", V.str "b", V.str "_", V.str "O", V.str "l", V.str "x", V.str "9", V.str "a", V.str "\n", V.str "+"] r = some (.str (txt [c])) ∧ c ≠ 48 ∧ c ≠ 49 := by
  rcases (by omega : r = 0 ∨ r = 1 ∨ r = 2 ∨ r = 3 ∨ r = 4 ∨ r = 5 ∨ r = 6 ∨ r = 7 ∨ r = 8 ∨ r = 9 ∨ r = 10 ∨ r = 11) with rfl | rfl | rfl | rfl | rfl | rfl | rfl | rfl | rfl | rfl | rfl | rfl
  · exact ⟨50, rfl, by decide, by decide⟩
  · exact ⟨32, rfl, by decide, by decide⟩
  · exact ⟨45, rfl, by decide, by decide⟩
  · exact ⟨98, rfl, by decide, by decide⟩
  · exact ⟨95, rfl, by decide, by decide⟩
  · exact ⟨79, rfl, by decide, by decide⟩
  · exact ⟨108, rfl, by decide, by decide⟩
  · exact ⟨120, rfl, by decide, by decide⟩
  · exact ⟨57, rfl, by decide, by decide⟩
  · exact ⟨97, rfl, by decide, by decide⟩
  · exact ⟨10, rfl, by decide, by decide⟩
  · exact ⟨43, rfl, by decide, by decide⟩
/-- what is refused: with Unfit (true) or NoText -/
def TTref (CU CT : Addr) : (XK → Hp → VK → Prop) → Hp → VK → Prop := fun tl H Q => ∀ (E : XK) (Q' : VK),
  (∀ (d : Addr) (H' : Hp), H' d = some (.xd [("at", .int 0)]) → (∀ p H'', Same H' H'' → H'' p = some (.tup [.str "word", .int 0]) → Q (.ref p) H'') → E (.ref CU) (some d) H') →
  (∀ (d : Addr) (H' : Hp), H' d = some (.xd [("line", .int 0)]) → (∀ p H'', Same H' H'' → H'' p = some (.tup [.str "text", .int 0]) → Q (.ref p) H'') → E (.ref CT) (some d) H') → tl E H Q'
structure Errs (K : PySem.W.Frag) (mg : Str → Option Value) (CE CU CT CB CN : Addr) : Prop where
  gE : mg "EchoError" = some (.ref CE)
  gU : mg "Unfit" = some (.ref CU)
  gT : mg "NoText" = some (.ref CT)
  gB : mg "BadForm" = some (.ref CB)
  gN : mg "NoFraction" = some (.ref CN)
  XU : ExcC K CU
  XT : ExcC K CT
  noA : PySem.W.findIn K (.ref CU) "at" = some none
  noL : PySem.W.findIn K (.ref CT) "line" = some none
  exU : PySem.W.exmOne K (.ref CU) (.ref CE) = some true
  exT : PySem.W.exmOne K (.ref CT) (.ref CE) = some true
  kUU : PySem.W.kitOne K (.ref CU) (.ref CU) = some true
  kUT : PySem.W.kitOne K (.ref CU) (.ref CT) = some false
  kUB : PySem.W.kitOne K (.ref CU) (.ref CB) = some false
  kUN : PySem.W.kitOne K (.ref CU) (.ref CN) = some false
  kTU : PySem.W.kitOne K (.ref CT) (.ref CU) = some false
  kTT : PySem.W.kitOne K (.ref CT) (.ref CT) = some true
  kTB : PySem.W.kitOne K (.ref CT) (.ref CB) = some false
  kTN : PySem.W.kitOne K (.ref CT) (.ref CN) = some false
section
variable {P : Program} {w : World} {K : PySem.W.Frag} {mg : Str → Option Value} {base : Heap}
theorem sc__law_bits : FnScope ["_law_entry", "_law_width", "_law_found", "_law_k"] ["_law_entry", "_law_width"] (defScope s__law_bits) := ⟨rfl, rfl, rfl, by decide +kernel, rfl, by decide +kernel, by decide +kernel⟩
theorem ok__law_bits {f : Addr} {fd : FuncData} {k : Nat} (F : Fun K "_law_bits" "_law_bits" s__law_bits f fd) (z : Zs mg) : FnOk P w K mg base CX0 (k + 1) f fd ["_law_entry", "_law_width"] spLBits := by
  refine F.ok sc__law_bits (fun vs H Q E h => ?_) (fun cdv A outer s H vs Q E hr h => ?_)
  · obtain ⟨n, y, rfl, _⟩ := h
    rfl
  · obtain ⟨n, y, rfl, y0, y1, q⟩ := h
    refine ⟨_, (pss_cons (ps_set (i := 2) sc__law_bits.nd rfl (.inl rfl) pe_str)
      (pss_cons (ps_for PassesOwn.never rfl (pi_range1 (by rfl) z.range (pa_cons (pv 1) pa_nil)) (pg_name (i := 3) sc__law_bits.nd rfl (.inl rfl)) (pss_cons (ps_set (i := 2) sc__law_bits.nd rfl (.inl rfl) (pe_op op_add_str (pe_ix ix_str pe_str (pe_op op_mod (pv 0) pe_int) (fun _ _ => rfl)) (pv 2)))
      (pss_one (ps_set (i := 0) sc__law_bits.nd rfl (.inl rfl) (pe_op op_fdiv (pv 0) pe_int)))))
      (pss_one (ps_ret (pv 2))))), ?_⟩
    obtain ⟨k, rfl⟩ := Int.eq_ofNat_of_zero_le y0
    refine ⟨_, rfl, k, rfl, by omega, by omega, for_range (n := k) (fun i σ H' => ∃ yy : Option V, σ = [some (.int (n / 2 ^ i)), some (.int (k : Int)), some (.str (txt (lowb n i))), yy] ∧ H' = H) ⟨none, ?_, rfl⟩ (fun i σ H2 hi hP => ?_) (fun σ H2 hP => ?_)⟩
    · rw [Int.pow_zero, Int.ediv_one]
      rfl
    · obtain ⟨yy, rfl, rfl⟩ := hP
      have hm := Int.emod_two_eq (n / 2 ^ i)
      refine ⟨_, rfl, _, _, rfl, rfl, (by show (0 : Int) < 2; decide), "01", n / 2 ^ i % 2, 48 + (n / 2 ^ i % 2).toNat, rfl, rfl, (by decide +kernel), ?_, _, rfl, _, _, rfl, rfl, ?_, ?_⟩
      · rcases hm with e | e <;> rw [e] <;> rfl
      · rw [txt_len, lowb_len]
        show 1 + i ≤ sizeLine
        exact Nat.le_of_lt (small1000' (by omega))
      · refine ⟨_, rfl, _, _, rfl, rfl, ⟨by decide, by decide⟩, ⟨some (V.int (0 + (i : Int))), ?_, rfl⟩⟩
        rw [show (⟨#[48 + (n / 2 ^ i % 2).toNat]⟩ : Str) = txt [48 + (n / 2 ^ i % 2).toNat] from rfl, txt_app, lowb_cons]
        have e9 : n / 2 ^ (i + 1) = n / 2 ^ i / 2 := by rw [Int.pow_succ, ← Int.ediv_ediv_of_nonneg (Int.le_of_lt (Int.pow_pos (by decide)))]
        rw [e9]
        rfl
    · obtain ⟨yy, rfl, rfl⟩ := hP
      exact ⟨_, rfl, q⟩
theorem sc__law_spoiled : FnScope ["_law_text", "_law_well_here", "_law_sort", "_law_at", "_law_sign", "_law_some"] ["_law_text", "_law_well_here"] (defScope s__law_spoiled) := ⟨rfl, rfl, rfl, by decide +kernel, rfl, by decide +kernel, by decide +kernel⟩
theorem ok__law_spoiled {f : Addr} {fd : FuncData} (F : Fun K "_law_spoiled" "_law_spoiled" s__law_spoiled f fd) (z : Zs mg) (c__law_draw : Cal P w K mg base 1 "_law_draw" ["_law_well_here", "_law_many"] spDraw) : FnOk P w K mg base CX0 2 f fd ["_law_text", "_law_well_here"] spSpoil := by
  refine F.ok sc__law_spoiled (fun vs H Q E h => ?_) (fun cdv A outer s H vs Q E hr h => ?_)
  · obtain ⟨l, a, c, rfl, _⟩ := h
    rfl
  · obtain ⟨l, a, c, rfl, hw, hc, l2, l64, q⟩ := h
    refine ⟨_, (pss_cons (ps_set (i := 2) sc__law_spoiled.nd rfl (.inl rfl) (pe_cal c__law_draw hr (pa_cons (pv 1) (pa_cons pe_int pa_nil))))
      (pss_cons (ps_set (i := 3) sc__law_spoiled.nd rfl (.inl rfl) (pe_cal c__law_draw hr (pa_cons (pv 1) (pa_cons (pe_callB call_len_str (by rfl) z.len PySem.boot_len (pa_cons (pv 0) pa_nil)) pa_nil))))
      (pss_cons (ps_set (i := 4) sc__law_spoiled.nd rfl (.inl rfl) (pe_ix ix_list (pe_lst (pa_cons pe_str (pa_cons pe_str (pa_cons pe_str (pa_cons pe_str (pa_cons pe_str (pa_cons pe_str (pa_cons pe_str (pa_cons pe_str (pa_cons pe_str (pa_cons pe_str (pa_cons pe_str (pa_cons pe_str pa_nil))))))))))))) (pe_cal c__law_draw hr (pa_cons (pv 1) (pa_cons pe_int pa_nil))) (fun _ _ => rfl)))
      (pss_cons (ps_if (pt_cmpR op_lt (pv 2) pe_int (nomark _)) (pss_one (ps_ret (pe_op op_add_str (pe_op op_add_str (pe_slice sl_str (pv 0) po_none (po_some (pv 3))) (pv 4)) (pe_slice sl_str (pv 0) (po_some (pe_op op_add (pv 3) pe_int)) po_none)))) pss_nil)
      (pss_cons (ps_set (i := 5) sc__law_spoiled.nd rfl (.inl rfl) (pe_lst (pa_cons (pe_op op_add_str (pe_slice sl_str (pv 0) po_none (po_some (pv 3))) (pe_slice sl_str (pv 0) (po_some (pe_op op_add (pv 3) pe_int)) po_none)) (pa_cons (pe_op op_add_str (pe_op op_add_str (pe_slice sl_str (pv 0) po_none (po_some (pv 3))) (pe_ix ix_str (pv 0) (pv 3) (fun _ _ => rfl))) (pe_slice sl_str (pv 0) (po_some (pv 3)) po_none)) (pa_cons (pe_op op_add_str pe_str (pv 0)) (pa_cons (pe_op op_add_str (pv 0) pe_str) (pa_cons pe_str (pa_cons (pe_op op_add_str pe_str (pe_slice sl_str (pv 0) (po_some pe_int) po_none)) pa_nil))))))))
      (pss_one (ps_ret (pe_ix ix_list (pv 5) (pe_op op_sub (pv 2) pe_int) (fun _ _ => rfl))))))))), ?_⟩
    refine ⟨_, rfl, a, c, 9, rfl, hw, by omega, by decide, by decide, fun r1 H1 r10 r11 d1 d1' w1 => ?_⟩
    refine ⟨_, rfl, _, rfl, _, rfl, (by rw [txt_len]; exact Nat.le_of_lt (small1000' (by omega))), ?_⟩
    rw [txt_len]
    refine ⟨a, c + 1, (l.length : Int), rfl, w1, by omega, by omega, up (show (l.length : Int).natAbs < 2 ^ 8 by omega) (by decide), fun r2 H2 r20 r21 d2 d2' w2 => ?_⟩
    refine ⟨(by show 12 ≤ sizeLine; decide), fun l3 hl3 => ?_⟩
    have q3 := same_new (o := .lst [V.str "2", V.str " ", V.str "-", V.str "b", V.str "_", V.str "O", V.str "l", V.str "x", V.str "9", V.str "a", V.str "\n", V.str "+"]) hl3
    have n3 : l3 ≠ a := w2.ne hl3
    refine ⟨_, rfl, a, c + 1 + 1, 12, rfl, (w2.same q3), by omega, by decide, by decide, fun r4 H4 r40 r41 d4 d4' w4 => ?_⟩
    obtain ⟨sg, hsg, s48, s49⟩ := sign12 r40 r41
    refine ⟨l3, _, r4, _, rfl, rfl, SqL.of (d4 _ _ n3 upd_same), hsg, ?_⟩
    have D4 : SameBut a H H4 := ((d1.trans d2).trans (SameBut.of q3)).trans d4
    have W4 : WellAt H4 a (c + 3) := w4.mono (by omega)
    clear d1 d1' d2 d2' d4 d4' w1 w2 w4 q3 n3 hl3 hsg
    obtain ⟨k, rfl⟩ := Int.eq_ofNat_of_zero_le r20
    have kl : k < l.length := by omega
    have k1 : ((k : Int) + 1) = ((k + 1 : Nat) : Int) := rfl
    have e1 : cutS (txt l) none (some (k : Int)) = txt (l.take k) := cut_to
    have e2 : cutS (txt l) (some ((k : Int) + 1)) none = txt (l.drop (k + 1)) := cut_from (k := k + 1)
    have e3 : cutS (txt l) (some (k : Int)) none = txt (l.drop k) := cut_from
    have e4 : cutS (txt l) (some (2 : Int)) none = txt (l.drop 2) := cut_from (k := 2)
    have hk : l[k]? = some l[k] := List.getElem?_eq_getElem kl
    have a4 : atI (txt l).cps.toList (k : Int) = some l[k] := atI_nat (by rw [txt_list]; exact hk)
    refine ⟨_, rfl, _, _, rfl, rfl, _, rfl, ite2 (fun c1 => ?_) (fun c1 => ?_)⟩
    · refine ⟨_, rfl, _, rfl, _, rfl, _, rfl, (by rw [txt_len]; exact Nat.le_of_lt (small1000' (by omega))), ?_⟩
      rw [e1]
      refine ⟨_, rfl, _, _, rfl, rfl, (Nat.le_of_lt (small1000' (by simp only [txt_len, List.length_append, List.length_take, List.length_drop, List.length_cons, List.length_nil]; omega))), _, rfl, _, rfl, _, _, rfl, rfl, _, rfl, _, rfl, (by rw [txt_len]; exact Nat.le_of_lt (small1000' (by omega))), ?_⟩
      rw [e2, txt_app]
      refine ⟨_, _, rfl, rfl, (Nat.le_of_lt (small1000' (by simp only [txt_len, List.length_append, List.length_take, List.length_drop, List.length_cons, List.length_nil]; omega))), ?_⟩
      rw [txt_app]
      refine q _ _ (.inr ⟨sg, by simp, s48, s49⟩) ?_ D4 W4
      simp only [List.length_append, List.length_take, List.length_drop, List.length_cons, List.length_nil]
      omega
    · have c3 : ¬ r1 < 3 := toNB c1
      refine ⟨_, rfl, _, rfl, _, rfl, _, rfl, (by rw [txt_len]; exact Nat.le_of_lt (small1000' (by omega))), ?_⟩
      rw [e1]
      refine ⟨_, rfl, _, rfl, _, _, rfl, rfl, _, rfl, _, rfl, (by rw [txt_len]; exact Nat.le_of_lt (small1000' (by omega))), ?_⟩
      rw [e2]
      refine ⟨_, _, rfl, rfl, (Nat.le_of_lt (small1000' (by simp only [txt_len, List.length_append, List.length_take, List.length_drop, List.length_cons, List.length_nil]; omega))), _, rfl, _, rfl, _, rfl, _, rfl, (by rw [txt_len]; exact Nat.le_of_lt (small1000' (by omega))), ?_⟩
      rw [e1, txt_app]
      refine ⟨_, rfl, _, rfl, txt l, k, l[k], rfl, rfl, (by rw [txt_len]; exact Nat.le_of_lt (small1000' (by omega))), a4, _, _, rfl, rfl, ?_, _, rfl, _, rfl, _, rfl, _, rfl, (by rw [txt_len]; exact Nat.le_of_lt (small1000' (by omega))), ?_⟩
      · rw [txt_len, List.length_take]
        show _ + 1 ≤ sizeLine
        exact Nat.le_of_lt (small1000' (by omega))
      rw [e3, show (⟨#[l[k]]⟩ : Str) = txt [l[k]] from rfl, txt_app]
      refine ⟨_, _, rfl, rfl, (Nat.le_of_lt (small1000' (by simp only [txt_len, List.length_append, List.length_take, List.length_drop, List.length_cons, List.length_nil]; omega))), _, rfl, _, _, rfl, rfl, (by rw [txt_len]; exact Nat.le_of_lt (small1000' (show 1 + l.length ≤ 1000 by omega))), _, rfl, _, _, rfl, rfl, (by rw [txt_len]; exact Nat.le_of_lt (small1000' (show l.length + 1 ≤ 1000 by omega))), _, rfl, _, rfl, _, rfl, (by rw [txt_len]; exact Nat.le_of_lt (small1000' (by omega))), ?_⟩
      rw [e4]
      refine ⟨_, _, rfl, rfl, (by rw [txt_len, List.length_drop]; exact Nat.le_of_lt (small1000' (show 2 + (l.length - 2) ≤ 1000 by omega))), (by show 6 ≤ sizeLine; decide), fun l5 hl5 => ?_⟩
      rw [show Str.ofString "0" = txt [48] from rfl, show Str.ofString "0b" = txt [48, 98] from rfl, show Str.ofString "" = txt [] from rfl]
      repeat rw [txt_app]
      refine ⟨_, rfl, _, rfl, _, _, rfl, rfl, ?_⟩
      have q5 : ∀ {o : HO}, SameBut a H (upd H4 l5 o) := D4.trans (SameBut.of (same_new hl5))
      have W5 : ∀ {o : HO}, WellAt (upd H4 l5 o) a (c + 3) := W4.same (same_new hl5)
      have lt : (l.take k).length = k := by rw [List.length_take]; omega
      rcases (by omega : r1 = 3 ∨ r1 = 4 ∨ r1 = 5 ∨ r1 = 6 ∨ r1 = 7 ∨ r1 = 8) with rfl | rfl | rfl | rfl | rfl | rfl
      · refine ⟨l5, _, 0, _, rfl, rfl, SqL.of upd_same, rfl, q _ _ (.inl ?_) ?_ q5 W5⟩ <;> rw [List.length_append, lt, List.length_drop] <;> omega
      · refine ⟨l5, _, 1, _, rfl, rfl, SqL.of upd_same, rfl, q _ _ (.inl ?_) ?_ q5 W5⟩ <;> simp only [List.length_append, lt, List.length_drop, List.length_cons, List.length_nil] <;> omega
      · refine ⟨l5, _, 2, _, rfl, rfl, SqL.of upd_same, rfl, q _ _ (.inl ?_) ?_ q5 W5⟩ <;> simp only [List.length_append, List.length_cons, List.length_nil] <;> omega
      · refine ⟨l5, _, 3, _, rfl, rfl, SqL.of upd_same, rfl, q _ _ (.inl ?_) ?_ q5 W5⟩ <;> simp only [List.length_append, List.length_cons, List.length_nil] <;> omega
      · refine ⟨l5, _, 4, _, rfl, rfl, SqL.of upd_same, rfl, q _ _ (.inl ?_) ?_ q5 W5⟩ <;> simp only [List.length_nil] <;> omega
      · refine ⟨l5, _, 5, _, rfl, rfl, SqL.of upd_same, rfl, q _ _ (.inr ⟨98, by simp, by decide, by decide⟩) ?_ q5 W5⟩
        simp only [List.length_append, List.length_drop, List.length_cons, List.length_nil]
        omega
end
end E1

namespace E1
open PySem PySem.Spec PyProof.Rows L2
theorem sc__law_refused : FnScope ["_law_deed", "_law_found", "e", "_law_marks"] ["_law_deed"] (defScope s__law_refused) := ⟨rfl, rfl, rfl, by decide +kernel, rfl, by decide +kernel, by decide +kernel⟩
theorem told_gives {X : Cx} {CE CU CT CB CN : Addr} (XX : Errs X.K X.mg CE CU CT CB CN) (ECU : PySem.ErrX.ErrC X.K X.mg "Unfit" CU) (ECT : PySem.ErrX.ErrC X.K X.mg "NoText" CT) (zi : X.mg "isinstance" = none) {k : Nat} (hr0 : Room (k + 1) X.A) {g : Addr} {cdg : Value} :
    GivesS X ["_law_deed", "_law_found", "e", "_law_marks"] "_law_refused" (defScope s__law_refused) g cdg (defBody s__law_refused) "_law_deed" (TTref CU CT) := by
  intro fl cd s H Q tl act hc h
  have hr : ∀ env, Room k (X.A.deeper env) := fun env => hr0.deeper env
  refine ⟨_, pss_cons (ps_set (i := 1) sc__law_refused.nd rfl (.inl rfl) pe_non)
    (pss_cons (ps_try_as (X := (gotCx X ["_law_deed", "_law_found", "e", "_law_marks"] "_law_refused" (defScope s__law_refused) g cdg s H).nox) (i := 2) (c := .ref CE) (tb := fun W D σ H => σ[0]? = some (some (.ref fl)) ∧ H cd = some (LamX.CodeO cd (lamQ X)) ∧ tl (WE W σ) H (fun _ H' => D.nx σ H')) (ts := fun a cls d => tSeq (tAsg (tLst (tCons (tCB (rIsX X.K a cls d) (tCons (tVar 2) (tCons (tC (.ref CU)) tNil))) (tCons (tCB (rIsX X.K a cls d) (tCons (tVar 2) (tCons (tC (.ref CT)) tNil))) (tCons (tCB (rIsX X.K a cls d) (tCons (tVar 2) (tCons (tC (.ref CB)) tNil))) (tCons (tCB (rIsX X.K a cls d) (tCons (tVar 2) (tCons (tC (.ref CN)) tNil))) tNil))))) (gName 3)) (tSeq (tIfS (tTest (tOp (rEqD X.K) (tVar 3) (tLst (tCons (tC (.bl true)) (tCons (tC (.bl false)) (tCons (tC (.bl false)) (tCons (tC (.bl false)) tNil))))))) (tAsg (tTup (tCons (tC (.str "word")) (tCons (tXf a cls d CU "at" (tVar 2)) tNil))) (gName 1)) tNext) (tIfS (tTest (tOp (rEqD X.K) (tVar 3) (tLst (tCons (tC (.bl false)) (tCons (tC (.bl true)) (tCons (tC (.bl false)) (tCons (tC (.bl false)) tNil))))))) (tAsg (tTup (tCons (tC (.str "text")) (tCons (tXf a cls d CT "line" (tVar 2)) tNil))) (gName 1)) tNext))) rfl rfl sc__law_refused.nd rfl rfl ⟨rfl, by decide, .inl XX.gE⟩ takes0 (fun W pn xe tk _ => pss_one (ps_expr (act W pn xe _ _ tk)))
      (fun a oe cls d pn hz hf => (pss_cons (ps_set (i := 3) sc__law_refused.nd rfl (.inl rfl) (pe_lst (pa_cons (pe_callB (call_isX hz hf) (by rfl) zi (by decide +kernel) (pa_cons (pv 2) (pa_cons (pe_glob (v := .ref CU) (by rfl) XX.gU rfl) pa_nil))) (pa_cons (pe_callB (call_isX hz hf) (by rfl) zi (by decide +kernel) (pa_cons (pv 2) (pa_cons (pe_glob (v := .ref CT) (by rfl) XX.gT rfl) pa_nil))) (pa_cons (pe_callB (call_isX hz hf) (by rfl) zi (by decide +kernel) (pa_cons (pv 2) (pa_cons (pe_glob (v := .ref CB) (by rfl) XX.gB rfl) pa_nil))) (pa_cons (pe_callB (call_isX hz hf) (by rfl) zi (by decide +kernel) (pa_cons (pv 2) (pa_cons (pe_glob (v := .ref CN) (by rfl) XX.gN rfl) pa_nil))) pa_nil))))))
      (pss_cons (ps_if (pt_cmpR (op_eqD (by exact (hr (envOfC "_law_refused" (defScope s__law_refused) s.heap.objs.size g cdg)).units)) (pv 3) (pe_lst (pa_cons pe_bl (pa_cons pe_bl (pa_cons pe_bl (pa_cons pe_bl pa_nil))))) (nomark _)) (pss_one (ps_set (i := 1) sc__law_refused.nd rfl (.inl rfl) (pe_tup (pa_cons pe_str (pa_cons (by exact (pe_xf (E1.ErrC.xf ECU) XX.noA hz hf (pv 2))) pa_nil))))) pss_nil)
      (pss_one (ps_if (pt_cmpR (op_eqD (by exact (hr (envOfC "_law_refused" (defScope s__law_refused) s.heap.objs.size g cdg)).units)) (pv 3) (pe_lst (pa_cons pe_bl (pa_cons pe_bl (pa_cons pe_bl (pa_cons pe_bl pa_nil))))) (nomark _)) (pss_one (ps_set (i := 1) sc__law_refused.nd rfl (.inl rfl) (pe_tup (pa_cons pe_str (pa_cons (by exact (pe_xf (E1.ErrC.xf ECT) XX.noL hz hf (pv 2))) pa_nil))))) pss_nil))))))
      (pss_one (ps_ret (pv 1)))), ?_⟩
  refine ⟨rfl, hc, ?_⟩
  refine h _ _ (fun d H1 hd q => ?_) (fun d H1 hd q => ?_)
  ·
    refine ⟨true, XX.exU, fun _ a ha => ?_, fun z => nomatch z⟩
    refine ⟨_, rfl, CU, _, _, true, rfl, XX.XU, rfl, (fun u h => h), (fun dd e => by cases e; exact ⟨_, hd⟩), XX.kUU, _, rfl, CU, _, _, false, rfl, XX.XU, rfl, (fun u h => h), (fun dd e => by cases e; exact ⟨_, hd⟩), XX.kUT, _, rfl, CU, _, _, false, rfl, XX.XU, rfl, (fun u h => h), (fun dd e => by cases e; exact ⟨_, hd⟩), XX.kUB, _, rfl, CU, _, _, false, rfl, XX.XU, rfl, (fun u h => h), (fun dd e => by cases e; exact ⟨_, hd⟩), XX.kUN, (by show 4 ≤ sizeLine; decide), fun l2 hl2 => ?_⟩
    have s2 := same_new (o := .lst [.bl true, .bl false, .bl false, .bl false]) hl2
    refine ⟨_, rfl, (by show 4 ≤ sizeLine; decide), fun l3 hl3 => ?_⟩
    have s3 := same_new (o := .lst [.bl true, .bl false, .bl false, .bl false]) hl3
    refine ⟨.list [.bool true, .bool false, .bool false, .bool false], .list [.bool true, .bool false, .bool false, .bool false], .lst (SqL.of (s3 _ _ upd_same)) (.cons (.bl _) (.cons (.bl _) (.cons (.bl _) (.cons (.bl _) .nil)))), .lst (SqL.of upd_same) (.cons (.bl _) (.cons (.bl _) (.cons (.bl _) (.cons (.bl _) .nil)))), (by decide +kernel), (by decide +kernel), _, rfl, ?_⟩
    refine iteC (c := PyData.eqv (.list [.bool true, .bool false, .bool false, .bool false]) (.list [.bool true, .bool false, .bool false, .bool false])) (d := true) (by decide +kernel) (iteT ?_)
    refine ⟨_, rfl, rfl, rfl, d, _, _, rfl, s3 _ _ (s2 _ _ hd), rfl, (by show 2 ≤ sizeLine; decide), fun p5 hp5 => ?_⟩
    have s5 := same_new (o := .tup [.str "word", .int 0]) hp5
    refine ⟨_, rfl, (by show 4 ≤ sizeLine; decide), fun l4 hl4 => ?_⟩
    have s4 := same_new (o := .lst [.bl false, .bl true, .bl false, .bl false]) hl4
    refine ⟨.list [.bool true, .bool false, .bool false, .bool false], .list [.bool false, .bool true, .bool false, .bool false], .lst (SqL.of (s4 _ _ (s5 _ _ (s3 _ _ upd_same)))) (.cons (.bl _) (.cons (.bl _) (.cons (.bl _) (.cons (.bl _) .nil)))), .lst (SqL.of upd_same) (.cons (.bl _) (.cons (.bl _) (.cons (.bl _) (.cons (.bl _) .nil)))), (by decide +kernel), (by decide +kernel), _, rfl, ?_⟩
    refine iteC (c := PyData.eqv (.list [.bool true, .bool false, .bool false, .bool false]) (.list [.bool false, .bool true, .bool false, .bool false])) (d := false) (by decide +kernel) (iteF ?_)
    exact ⟨_, rfl, q p5 _ (s2.trans (s3.trans (s5.trans s4))) (s4 _ _ upd_same)⟩
  ·
    refine ⟨true, XX.exT, fun _ a ha => ?_, fun z => nomatch z⟩
    refine ⟨_, rfl, CT, _, _, false, rfl, XX.XT, rfl, (fun u h => h), (fun dd e => by cases e; exact ⟨_, hd⟩), XX.kTU, _, rfl, CT, _, _, true, rfl, XX.XT, rfl, (fun u h => h), (fun dd e => by cases e; exact ⟨_, hd⟩), XX.kTT, _, rfl, CT, _, _, false, rfl, XX.XT, rfl, (fun u h => h), (fun dd e => by cases e; exact ⟨_, hd⟩), XX.kTB, _, rfl, CT, _, _, false, rfl, XX.XT, rfl, (fun u h => h), (fun dd e => by cases e; exact ⟨_, hd⟩), XX.kTN, (by show 4 ≤ sizeLine; decide), fun l2 hl2 => ?_⟩
    have s2 := same_new (o := .lst [.bl false, .bl true, .bl false, .bl false]) hl2
    refine ⟨_, rfl, (by show 4 ≤ sizeLine; decide), fun l3 hl3 => ?_⟩
    have s3 := same_new (o := .lst [.bl true, .bl false, .bl false, .bl false]) hl3
    refine ⟨.list [.bool false, .bool true, .bool false, .bool false], .list [.bool true, .bool false, .bool false, .bool false], .lst (SqL.of (s3 _ _ upd_same)) (.cons (.bl _) (.cons (.bl _) (.cons (.bl _) (.cons (.bl _) .nil)))), .lst (SqL.of upd_same) (.cons (.bl _) (.cons (.bl _) (.cons (.bl _) (.cons (.bl _) .nil)))), (by decide +kernel), (by decide +kernel), _, rfl, ?_⟩
    refine iteC (c := PyData.eqv (.list [.bool false, .bool true, .bool false, .bool false]) (.list [.bool true, .bool false, .bool false, .bool false])) (d := false) (by decide +kernel) (iteF ?_)
    refine ⟨_, rfl, (by show 4 ≤ sizeLine; decide), fun l4 hl4 => ?_⟩
    have s4 := same_new (o := .lst [.bl false, .bl true, .bl false, .bl false]) hl4
    refine ⟨.list [.bool false, .bool true, .bool false, .bool false], .list [.bool false, .bool true, .bool false, .bool false], .lst (SqL.of (s4 _ _ (s3 _ _ upd_same))) (.cons (.bl _) (.cons (.bl _) (.cons (.bl _) (.cons (.bl _) .nil)))), .lst (SqL.of upd_same) (.cons (.bl _) (.cons (.bl _) (.cons (.bl _) (.cons (.bl _) .nil)))), (by decide +kernel), (by decide +kernel), _, rfl, ?_⟩
    refine iteC (c := PyData.eqv (.list [.bool false, .bool true, .bool false, .bool false]) (.list [.bool false, .bool true, .bool false, .bool false])) (d := true) (by decide +kernel) (iteT ?_)
    refine ⟨_, rfl, rfl, rfl, d, _, _, rfl, s4 _ _ (s3 _ _ (s2 _ _ hd)), rfl, (by show 2 ≤ sizeLine; decide), fun p5 hp5 => ?_⟩
    have s5 := same_new (o := .tup [.str "text", .int 0]) hp5
    exact ⟨_, rfl, q p5 _ (s2.trans (s3.trans (s4.trans s5))) upd_same⟩

end E1

namespace E1
open PySem PySem.Spec PyProof.Rows L2

abbrev lawQ : Str := (envOfC "law" (defScope s_law) 0 0 .none).qual ++ "<lambda>"
def spLaw (K : PySem.W.Frag) (Pt : Addr) : Sp := fun vs H Q _ => ∃ (a : Addr) (ns : List Int), vs = [.ref a] ∧ SqL K H a (ns.map V.int) ∧ ns.length ≤ 63 ∧ H Pt = some (.tbl #[]) ∧ ∀ H', Q (.bl true) H'
def CalCN (P : Program) (w : World) (K : PySem.W.Frag) (mg : Str → Option Value) (base : Heap) (k : Nat) (x : Str) (C : Addr) (ps : List Str) (n : Nat) (ks : List Str) (gV : List V → List V → List V) (sp : Sp) : Prop :=
  ∃ (f : Addr) (fd : FuncData) (g : List Value → List Value → List Value), Mk K C f ∧ mg x = some (.ref C) ∧ KBn K fd ps (n + 1) ks g gV ∧ FnOk P w K mg base CX0 k f fd ps sp
theorem pe_calcN {X : Cx} {k j n : Nat} {C : Addr} {x : Str} {ps ks : List Str} {sp : Sp} {e : Expr} {es : List Expr} {t tk : TA} {p pos : Pos} {gV : List V → List V → List V} {kws : List Keyword} (h : CalCN X.prog X.w X.K X.mg X.base k x C ps n ks gV sp) (hr : Room j X.A) (ha : PA X (e :: es) t) (hkw : PK X kws tk) (hle : k + 1 ≤ j := by decide) (hg : Gl X x := by rfl)
    (hall : (backToKw pos (keywordEach kws X.env)).all (·.1.isSome) = true := by rfl) (hks : (backToKw pos (keywordEach kws X.env)).filterMap (·.1) = ks := by rfl) (hdb : (x == ("__debug__" : Str)) = false := by decide) (he : starEach (e :: es) X.env = (false, eval e X.env) :: starEach es X.env := by rfl)
    (hpl : ((backTo pos (starEach (e :: es) X.env)).any (·.1) || (backToKw pos (keywordEach kws X.env)).any (·.1.isNone)) = false := by rfl) :
    PE X (.Call (.Name x p) (e :: es) kws pos) (tMakeN C n ks.length sp gV E0 t tk) := by
  obtain ⟨f, fd, g, h1, h2, h3, h4⟩ := h
  exact pe_makeN h1 h4 (hr.mono hle) hg h2 h3 pass0 ha hkw hall hks hdb he hpl
/-- all but the thing at a and the tables stay -/
def EB (a : Addr) (H H' : Hp) : Prop := ∀ b o, b ≠ a → H b = some o → (∀ ps, o ≠ .tbl ps) → H' b = some o
theorem EB.refl (a : Addr) (H : Hp) : EB a H H := fun _ _ _ h _ => h
theorem EB.ext {a : Addr} {H H1 H2 : Hp} (x : EB a H H1) (y : LamX.ExtN H1 H2) : EB a H H2 := fun b o n e t => y b o (x b o n e t) t
theorem EB.same {a : Addr} {H H1 H2 : Hp} (x : EB a H H1) (y : Same H1 H2) : EB a H H2 := fun b o n e t => y b o (x b o n e t)
theorem EB.but {a : Addr} {H H1 H2 : Hp} (x : EB a H H1) (y : SameBut a H1 H2) : EB a H H2 := fun b o n e t => y b o n (x b o n e t)
theorem EB.form {a C : Addr} {H H' : Hp} {p : Addr} {w : Option Int} {pt : Int} {m : Mn} {st : Bool} (x : EB a H H') (n : p ≠ a) (f : FormAt C H p w pt m st) : FormAt C H' p w pt m st := by
  obtain ⟨⟨dx, h⟩, a, b, c⟩ := f
  exact ⟨⟨dx, x _ _ n h (fun _ z => by cases z)⟩, a, b, c⟩
theorem ext_form {C : Addr} {H H' : Hp} {p : Addr} {w : Option Int} {pt : Int} {m : Mn} {st : Bool} (x : LamX.ExtN H H') (f : FormAt C H p w pt m st) : FormAt C H' p w pt m st := by
  obtain ⟨⟨dx, h⟩, a, b, c⟩ := f
  exact ⟨⟨dx, x _ _ h (fun _ z => by cases z)⟩, a, b, c⟩
theorem ext_well {H H' : Hp} {a : Addr} {c : Int} (x : LamX.ExtN H H') (h : WellAt H a c) : WellAt H' a c := by
  obtain ⟨i, j, k, e, h1, h2, h3, h4⟩ := h
  exact ⟨i, j, k, x _ _ e (fun _ z => by cases z), h1, h2, h3, h4⟩
theorem tabs_but {T : List (Addr × Str)} {H H' : Hp} {a : Addr} {c : Int} (t : LamX.Tabs T H) (s : SameBut a H H') (w : WellAt H a c) : LamX.Tabs T H' := fun p hp => by
  obtain ⟨ps, h1, h2, h3⟩ := t p hp
  obtain ⟨i, j, k, e, _⟩ := w
  refine ⟨ps, s _ _ (fun z => by rw [z, e] at h1; cases h1) h1, h2, fun pos cv hc => ?_⟩
  obtain ⟨c0, e1, e2⟩ := h3 pos cv hc
  refine ⟨c0, e1, s _ _ (fun z => ?_) e2⟩
  rw [z, e] at e2
  have e3 := Option.some.inj e2
  unfold LamX.CodeO at e3
  cases e3
def NW (y : Int) (H : Hp) (x : V) : Prop := (∃ n, x = .int n ∧ inR (some y) n = false) ∨ (∃ b, x = .bl b) ∨ ∃ t, Kd H x t ∧ kitB t "int" = some false
theorem NW.is {K : PySem.W.Frag} {y : Int} {H : Hp} {x : V} (h : NW y H x) : NoWord K H (some y) x := by
  rcases h with h | ⟨b, rfl⟩ | ⟨t, k, ht⟩
  · exact .inl h
  · exact .inr (.inr (.inl ⟨b, rfl, rfl⟩))
  · exact .inr (.inr (.inr ⟨rfl, t, k.ty, ht⟩))
theorem NW.keep {y : Int} {H H' : Hp} {x : V} (h : NW y H x) (k : StaysV H H' x) : NW y H' x := by
  rcases h with h | h | ⟨t, q, h⟩
  · exact .inl h
  · exact .inr (.inl h)
  · exact .inr (.inr ⟨t, q.keep k, h⟩)
def NB (H : Hp) (x : V) : Prop := ∃ t, Kd H x t ∧ kitB t "str" = some false
theorem NB.is {K : PySem.W.Frag} {y : Int} {H : Hp} {x : V} (h : NB H x) : BitsIs K H (some y) x false := by
  obtain ⟨t, k, ht⟩ := h
  exact .inr (.inr ⟨rfl, t, k.ty, ht⟩)
theorem NB.keep {H H' : Hp} {x : V} (h : NB H x) (k : StaysV H H' x) : NB H' x := by
  obtain ⟨t, q, h⟩ := h
  exact ⟨t, q.keep k, h⟩
theorem in_of {y n : Int} (h0 : -(two (y - 1)) ≤ n) (h1 : n ≤ two (y - 1) - 1) : inR (some y) n = true := by
  show (decide (lst y ≤ n) && decide (n ≤ grt y)) = true
  rw [decide_eq_true (show lst y ≤ n from h0), decide_eq_true (show n ≤ grt y from h1)]
  rfl
theorem out_of {y n : Int} (h : ¬ (-(two (y - 1)) ≤ n ∧ n ≤ two (y - 1) - 1)) : inR (some y) n = false := by
  show (decide (lst y ≤ n) && decide (n ≤ grt y)) = false
  rw [Bool.and_eq_false_iff, decide_eq_false_iff_not, decide_eq_false_iff_not]
  by_cases c : -(two (y - 1)) ≤ n
  · exact .inr fun z => h ⟨c, z⟩
  · exact .inl c
theorem two_big {y : Int} (h2 : 2 ≤ y) (h64 : y ≤ 64) : 2 ≤ two (y - 1) ∧ two (y - 1) ≤ 9223372036854775808 := by
  obtain ⟨k, hk⟩ := Int.eq_ofNat_of_zero_le (show 0 ≤ y - 2 by omega)
  have kk : k ≤ 62 := by omega
  have e : two (y - 1) = 2 ^ k * 2 := by
    unfold two
    rw [show (y - 1).toNat = k + 1 by omega, Int.pow_succ]
  have l1 : (1 : Int) ≤ 2 ^ k := Int.pow_pos (by decide)
  have l2 : (2 : Nat) ^ k ≤ 2 ^ 62 := Nat.pow_le_pow_right (by decide) kk
  have l3 : ((2 ^ k : Nat) : Int) = 2 ^ k := by simp
  have l4 : (2 : Nat) ^ 62 = 4611686018427387904 := by decide
  omega
theorem four {y r : Int} (t2 : 2 ≤ two (y - 1)) (h0 : 0 ≤ r) (h1 : r < 4) : ∃ n, atI [V.int 0, V.int (-1), V.int (0 - two (y - 1)), V.int (two (y - 1) - 1)] r = some (.int n) ∧ inR (some y) n = true := by
  rcases (by omega : r = 0 ∨ r = 1 ∨ r = 2 ∨ r = 3) with rfl | rfl | rfl | rfl
  · exact ⟨_, rfl, in_of (by omega) (by omega)⟩
  · exact ⟨_, rfl, in_of (by omega) (by omega)⟩
  · exact ⟨_, rfl, in_of (by omega) (by omega)⟩
  · exact ⟨_, rfl, in_of (by omega) (by omega)⟩
theorem mul_rep {c : Nat} {y : Int} (h2 : 2 ≤ y) (h64 : y ≤ 64) : MulOk (txt [c]) y ∧ Txt.mul (txt [c]) y = txt (List.replicate y.toNat c) := by
  have l1 : (txt [c]).length = 1 := txt_len _
  constructor
  · refine ⟨?_, fun _ _ => ?_, fun _ _ => ?_⟩
    · rw [Bool.or_eq_false_iff, decide_eq_false_iff_not, decide_eq_false_iff_not]
      omega
    · rw [l1]
      have : (2 ^ 63 - 1 : Int) / y ≥ 1 := by
        have := Int.le_ediv_of_mul_le (c := y) (a := 1) (b := 2 ^ 63 - 1) (by omega) (by omega)
        omega
      omega
    · rw [l1, Nat.one_mul]
      have key : ∀ n : Fin 65, Builtin.Str.tooLong (n : Nat) = false := by decide +kernel
      exact key ⟨y.toNat, by omega⟩
  · unfold Txt.mul
    rw [if_neg (by omega), if_neg (by rw [l1]; simp; omega)]
    show txt _ = _
    congr 1
    generalize y.toNat = k
    have : ∀ (k : Nat) (acc : Array Nat), ((List.replicate k (txt [c]).cps).foldl (· ++ ·) acc) = acc ++ (List.replicate k c).toArray := fun k => by
      induction k with
      | zero => intro acc; simp
      | succ k ih =>
        intro acc
        rw [List.replicate_succ, List.foldl_cons, ih, List.replicate_succ, Array.append_assoc]
        congr 1
        show [c].toArray ++ (List.replicate k c).toArray = _
        rw [List.append_toArray]
        rfl
    rw [this]
    simp
theorem low_zero : ∀ k : Nat, lowb 0 k = List.replicate k 48
  | 0 => rfl
  | k + 1 => by
    show lowb (0 / 2) k ++ [48 + ((0 : Int) % 2).toNat] = _
    rw [show (0 : Int) / 2 = 0 from rfl, low_zero k, List.replicate_succ']
    rfl
theorem low_ones : ∀ k : Nat, lowb (-1) k = List.replicate k 49
  | 0 => rfl
  | k + 1 => by
    show lowb (-1 / 2) k ++ [48 + ((-1 : Int) % 2).toNat] = _
    rw [show (-1 : Int) / 2 = -1 from rfl, low_ones k, List.replicate_succ']
    rfl

end E1

namespace E1
open PySem PySem.Spec PyProof.Rows L2
section
variable {P : Program} {w : World} {K : PySem.W.Frag} {mg : Str → Option Value} {base : Heap}
theorem sc_law : FnScope ["_law_script", "_law_well_here", "_law_width", "_law_point", "_law_edge", "_law_room", "_law_sort", "_law_spoils", "_law_back", "_law_distant", "_law_entry", "_law_figures", "_law_form", "_law_free", "_law_text", "_law_thing"] ["_law_script"] (defScope s_law) := ⟨rfl, rfl, rfl, by decide +kernel, rfl, by decide +kernel, by decide +kernel⟩
theorem ok_law {f : Addr} {fd : FuncData} {C : Addr} (T : FTxt K mg C) {CE CU CT CB CN c Pt gT : Addr} {fdT : FuncData} (F : FunC K "law" s_law f fd c) (z : Zs mg) (XX : Errs K mg CE CU CT CB CN) (ECU : PySem.ErrX.ErrC K mg "Unfit" CU) (ECT : PySem.ErrX.ErrC K mg "NoText" CT) (TB : LamX.TabB base mg c Pt) (FT : Fun K "_law_refused" "_law_refused" s__law_refused gT fdT) (gm : mg "_law_refused" = some (.ref gT)) (bT : Binds K fdT ["_law_deed"] []) (c__law_cell_at : Cal P w K mg base 1 "_law_cell_at" ["_law_script", "_law_k"] (spCell K)) (c__law_well : Cal P w K mg base 1 "_law_well" ["_law_cell"] spWell) (c__law_draw : Cal P w K mg base 1 "_law_draw" ["_law_well_here", "_law_many"] spDraw) (c__law_bits : Cal P w K mg base 1 "_law_bits" ["_law_entry", "_law_width"] spLBits) (c__law_spoiled : Cal P w K mg base 2 "_law_spoiled" ["_law_text", "_law_well_here"] spSpoil) (c_Form_4 : CalC P w K mg base 3 "Form" C ["self", "width", "point", "manner", "ends"] [] (spInit C)) (c_Form_f : CalCN P w K mg base 3 "Form" C ["self", "width", "point", "manner", "ends"] 2 ["ends"] (fun vs zs => vs ++ (([V.non, V.int 0, V.str "half", V.str "wrap"] : List V).drop 2).take 1 ++ zs) (spInit C)) (m_bits : CalMX P w K mg base 3 C "bits" ["self", "word"] (spBits K C CU)) (m_bits_k : CalMXK P w K mg base 3 C "bits" ["self", "word"] ["word"] (fun vs zs => vs ++ zs) (spBits K C CU)) (m_word_of : CalMX P w K mg base 3 C "word_of" ["self", "bits"] (spWordOf K C CT)) (m_word_of_k : CalMXK P w K mg base 3 C "word_of" ["self", "bits"] ["bits"] (fun vs zs => vs ++ zs) (spWordOf K C CT)) : FnOk P w K mg base CX0 8 f fd ["_law_script"] (spLaw K Pt) := by
  obtain ⟨cdg, GT⟩ := got_of (Ng := ["_law_deed", "_law_found", "e", "_law_marks"]) FT gm bT sc__law_refused rfl (.inl rfl)
  refine F.ok sc_law (fun vs H Q E h => ?_) (fun A outer s H vs Q E hr h => ?_)
  · obtain ⟨a, ns, rfl, _⟩ := h
    rfl
  · obtain ⟨as, ns, rfl, hS, hlen, hPt, q⟩ := h
    refine ⟨_, (pss_cons (ps_set (i := 1) sc_law.nd rfl (.inl rfl) (pe_cal c__law_well hr (pa_cons (pe_cal c__law_cell_at hr (pa_cons (pv 0) (pa_cons pe_int pa_nil))) pa_nil)))
      (pss_cons (ps_set (i := 2) sc_law.nd rfl (.inl rfl) (pe_op op_add pe_int (pe_cal c__law_draw hr (pa_cons (pv 1) (pa_cons pe_int pa_nil)))))
      (pss_cons (ps_set (i := 3) sc_law.nd rfl (.inl rfl) (pe_op op_sub (pe_cal c__law_draw hr (pa_cons (pv 1) (pa_cons pe_int pa_nil))) pe_int))
      (pss_cons (ps_set (i := 4) sc_law.nd rfl (.inl rfl) (pe_ix ix_list (pe_lst (pa_cons pe_str (pa_cons pe_str pa_nil))) (pe_cal c__law_draw hr (pa_cons (pv 1) (pa_cons pe_int pa_nil))) (fun _ _ => rfl)))
      (pss_cons (ps_set (i := 12) sc_law.nd rfl (.inr rfl) (pe_calc c_Form_4 hr (pa_cons (pv 2) (pa_cons (pv 3) (pa_cons pe_str (pa_cons (pv 4) pa_nil))))))
      (pss_cons (ps_set (i := 13) sc_law.nd rfl (.inr rfl) (pe_calcN c_Form_f hr (pa_cons pe_non (pa_cons (pv 3) pa_nil)) (pk_cons (pv 4) pk_nil)))
      (pss_cons (ps_set (i := 5) sc_law.nd rfl (.inl rfl) (pe_op op_shl pe_int (pe_op op_sub (pv 2) pe_int)))
      (pss_cons (ps_set (i := 1) sc_law.nd rfl (.inl rfl) (pe_cal c__law_well hr (pa_cons (pe_cal c__law_cell_at hr (pa_cons (pv 0) (pa_cons pe_int pa_nil))) pa_nil)))
      (pss_cons (ps_set (i := 6) sc_law.nd rfl (.inl rfl) (pe_cal c__law_draw hr (pa_cons (pv 1) (pa_cons pe_int pa_nil))))
      (pss_cons (ps_set (i := 7) sc_law.nd rfl (.inl rfl) (pe_cal c__law_well hr (pa_cons (pe_cal c__law_cell_at hr (pa_cons (pv 0) (pa_cons pe_int pa_nil))) pa_nil)))
      (pss_cons (ps_for PassesOwn.never rfl (pi_list (pe_lst (pa_cons (pe_op op_sub (pe_cal c__law_draw hr (pa_cons (pv 1) (pa_cons (pe_op op_mul pe_int (pv 5)) pa_nil))) (pv 5)) (pa_cons (pe_ix ix_list (pe_lst (pa_cons pe_int (pa_cons (pe_un un_neg pe_int) (pa_cons (pe_op op_sub pe_int (pv 5)) (pa_cons (pe_op op_sub (pv 5) pe_int) pa_nil))))) (pv 6) (fun _ _ => rfl)) (pa_cons pe_int (pa_cons (pe_un un_neg pe_int) pa_nil)))))) (pg_name (i := 10) sc_law.nd rfl (.inr rfl)) (pss_cons (ps_set (i := 11) sc_law.nd rfl (.inr rfl) (pe_cal c__law_bits hr (pa_cons (pv 10) (pa_cons (pv 2) pa_nil))))
      (pss_cons (ps_if (PW.pt (pw_or (pt_cmpR op_ne (pe_calmx (pv 12) T.cl m_bits hr (pa_cons (pv 10) pa_nil)) (pv 11) (nomark _)) (pw_or (pt_cmpR op_ne (pe_calmkx0 (pv 12) T.cl m_bits_k hr (pk_cons (pv 10) pk_nil)) (pv 11) (nomark _)) (pw_or1 (pt_not (pt_val (pe_callB call_isi (by rfl) z.isinstance (by decide +kernel) (pa_cons (pe_calmx (pv 12) T.cl m_bits hr (pa_cons (pv 10) pa_nil)) (pa_cons (pe_bltn (v := .ty "str") (by rfl) z.str (by decide +kernel) rfl) pa_nil))))))))) (pss_one (ps_ret pe_bl)) pss_nil)
      (pss_cons (ps_set (i := 8) sc_law.nd rfl (.inl rfl) (pe_calmx (pv 12) T.cl m_word_of hr (pa_cons (pv 11) pa_nil)))
      (pss_cons (ps_if (PW.pt (pw_or (pt_not (pt_val (pe_callB call_isi (by rfl) z.isinstance (by decide +kernel) (pa_cons (pv 8) (pa_cons (pe_bltn (v := .ty "int") (by rfl) z.int (by decide +kernel) rfl) pa_nil))))) (pw_or (pt_val (pe_callB call_isi (by rfl) z.isinstance (by decide +kernel) (pa_cons (pv 8) (pa_cons (pe_bltn (v := .ty "bool") (by rfl) z.bool (by decide +kernel) rfl) pa_nil)))) (pw_or (pt_cmpR op_ne (pv 8) (pv 10) (nomark _)) (pw_or1 (pt_cmpR op_ne (pe_calmkx0 (pv 12) T.cl m_word_of_k hr (pk_cons (pv 11) pk_nil)) (pv 10) (nomark _))))))) (pss_one (ps_ret pe_bl)) pss_nil)
      (pss_cons (ps_set (i := 14) sc_law.nd rfl (.inr rfl) (pe_cal c__law_spoiled hr (pa_cons (pv 11) (pa_cons (pv 7) pa_nil))))
      (pss_cons (ps_if (pt_cmpR (op_neD hr.units) (pe_lamS (T := [(Pt, lawQ)]) (t := fun E => tMethX C "word_of" (spWordOf K C CT) (WE (fun cls d _ H => E cls d H)) (tVar 12) (tCons (tVar 14) tNil)) (k := 5) (L := LamX.lamS_by (by show LamX.lamSB (defScope s_law) _ = true; decide +kernel)) GT (told_gives XX ECU ECT z.isinstance hr) TB hr (fun E A out s H fl cd rm => by exact (pe_calmxS (W := fun cls d _ H => E cls d H) (pv 12) T.cl m_word_of rm takesLam (pa_cons (pv 14) pa_nil)))) (pe_tup (pa_cons pe_str (pa_cons pe_int pa_nil))) (nomark _)) (pss_one (ps_ret pe_bl)) pss_nil)
      (pss_cons (ps_if (pt_cmpR (op_neD hr.units) (pe_lamS (T := [(Pt, lawQ)]) (t := fun E => tMethX C "word_of" (spWordOf K C CT) (WE (fun cls d _ H => E cls d H)) (tVar 12) (tCons (tOp (fun x y H Q => ∃ i j, x = .str i ∧ y = .str j ∧ i.length + j.length ≤ sizeLine ∧ Q (.str (i ++ j)) H) (tSl rSlS (tVar 11) (tPart (tC (.int 1))) tNoPart) (tC (.str "\n"))) tNil)) (k := 5) (L := LamX.lamS_by (by show LamX.lamSB (defScope s_law) _ = true; decide +kernel)) GT (told_gives XX ECU ECT z.isinstance hr) TB hr (fun E A out s H fl cd rm => by exact (pe_calmxS (W := fun cls d _ H => E cls d H) (pv 12) T.cl m_word_of rm takesLam (pa_cons (pe_op op_add_str (pe_slice sl_str (pv 11) (po_some pe_int) po_none) pe_str) pa_nil)))) (pe_tup (pa_cons pe_str (pa_cons pe_int pa_nil))) (nomark _)) (pss_one (ps_ret pe_bl)) pss_nil)
      (pss_cons (ps_if (pt_cmpR (op_neD hr.units) (pe_lamS (T := [(Pt, lawQ)]) (t := fun E => tMethX C "bits" (spBits K C CU) (WE (fun cls d _ H => E cls d H)) (tVar 13) (tCons (tVar 10) tNil)) (k := 5) (L := LamX.lamS_by (by show LamX.lamSB (defScope s_law) _ = true; decide +kernel)) GT (told_gives XX ECU ECT z.isinstance hr) TB hr (fun E A out s H fl cd rm => by exact (pe_calmxS (W := fun cls d _ H => E cls d H) (pv 13) T.cl m_bits rm takesLam (pa_cons (pv 10) pa_nil)))) (pe_tup (pa_cons pe_str (pa_cons pe_int pa_nil))) (nomark _)) (pss_one (ps_ret pe_bl)) pss_nil)
      (pss_one (ps_if (pt_cmpR (op_neD hr.units) (pe_lamS (T := [(Pt, lawQ)]) (t := fun E => tMethX C "word_of" (spWordOf K C CT) (WE (fun cls d _ H => E cls d H)) (tVar 13) (tCons (tVar 11) tNil)) (k := 5) (L := LamX.lamS_by (by show LamX.lamSB (defScope s_law) _ = true; decide +kernel)) GT (told_gives XX ECU ECT z.isinstance hr) TB hr (fun E A out s H fl cd rm => by exact (pe_calmxS (W := fun cls d _ H => E cls d H) (pv 13) T.cl m_word_of rm takesLam (pa_cons (pv 11) pa_nil)))) (pe_tup (pa_cons pe_str (pa_cons pe_int pa_nil))) (nomark _)) (pss_one (ps_ret pe_bl)) pss_nil)))))))))))
      (pss_cons (ps_set (i := 9) sc_law.nd rfl (.inl rfl) (pe_lst (pa_cons (pv 5) (pa_cons (pe_op op_sub (pe_op op_sub pe_int (pv 5)) pe_int) (pa_cons (pe_op op_add (pv 5) (pe_cal c__law_draw hr (pa_cons (pv 1) (pa_cons (pe_op op_pow pe_int pe_int) pa_nil)))) (pa_cons pe_non (pa_cons pe_bl (pa_cons pe_str (pa_cons (pe_tup (pa_cons pe_int pa_nil)) (pa_cons (pe_lst (pa_cons pe_int pa_nil)) (pa_cons pe_dnewK pa_nil)))))))))))
      (pss_cons (ps_for PassesOwn.never rfl (pi_list (pv 9)) (pg_name (i := 15) sc_law.nd rfl (.inr rfl)) (pss_one (ps_if (pt_cmpR (op_neD hr.units) (pe_lamS (T := [(Pt, lawQ)]) (t := fun E => tMethX C "bits" (spBits K C CU) (WE (fun cls d _ H => E cls d H)) (tVar 12) (tCons (tVar 15) tNil)) (k := 5) (L := LamX.lamS_by (by show LamX.lamSB (defScope s_law) _ = true; decide +kernel)) GT (told_gives XX ECU ECT z.isinstance hr) TB hr (fun E A out s H fl cd rm => by exact (pe_calmxS (W := fun cls d _ H => E cls d H) (pv 12) T.cl m_bits rm takesLam (pa_cons (pv 15) pa_nil)))) (pe_tup (pa_cons pe_str (pa_cons pe_int pa_nil))) (nomark _)) (pss_one (ps_ret pe_bl)) pss_nil)))
      (pss_cons (ps_for PassesOwn.never rfl (pi_list (pe_lst (pa_cons pe_non (pa_cons pe_int (pa_cons pe_bl (pa_cons (pe_op op_rep (pe_lst (pa_cons pe_str pa_nil)) (pv 2)) (pa_cons (pe_op op_repT (pe_tup (pa_cons pe_str pa_nil)) (pv 2)) (pa_cons (pe_op op_pow pe_int pe_int) (pa_cons (pe_lst pa_nil) (pa_cons pe_dnewK pa_nil)))))))))) (pg_name (i := 15) sc_law.nd rfl (.inr rfl)) (pss_one (ps_if (pt_cmpR (op_neD hr.units) (pe_lamS (T := [(Pt, lawQ)]) (t := fun E => tMethX C "word_of" (spWordOf K C CT) (WE (fun cls d _ H => E cls d H)) (tVar 12) (tCons (tVar 15) tNil)) (k := 5) (L := LamX.lamS_by (by show LamX.lamSB (defScope s_law) _ = true; decide +kernel)) GT (told_gives XX ECU ECT z.isinstance hr) TB hr (fun E A out s H fl cd rm => by exact (pe_calmxS (W := fun cls d _ H => E cls d H) (pv 12) T.cl m_word_of rm takesLam (pa_cons (pv 15) pa_nil)))) (pe_tup (pa_cons pe_str (pa_cons pe_int pa_nil))) (nomark _)) (pss_one (ps_ret pe_bl)) pss_nil)))
      (pss_one (ps_ret (pe_and (pe_cmpR op_eq (pe_calmx (pv 12) T.cl m_bits hr (pa_cons pe_int pa_nil)) (pe_op op_mul_str pe_str (pv 2)) (nomark _)) (pe_one (pe_cmpR op_eq (pe_calmx (pv 12) T.cl m_bits hr (pa_cons (pe_un un_neg pe_int) pa_nil)) (pe_op op_mul_str pe_str (pv 2)) (nomark _)))))))))))))))))))), ?_⟩
    refine ⟨_, rfl, as, ns, 0, rfl, hS, _, rfl, fun w1 hw1 H1 s1 k1 => ?_⟩
    refine ⟨_, rfl, w1, 0, 63, rfl, k1, by decide, by decide, by decide, fun r2 H2 r20 r21 d2 d2' w2 => ⟨_, _, rfl, rfl, ?_⟩⟩
    refine ⟨_, rfl, w1, 0 + 1, 129, rfl, w2, by decide, by decide, by decide, fun r3 H3 r30 r31 d3 d3' w3 => ⟨_, _, rfl, rfl, ?_⟩⟩
    refine ⟨(by show 2 ≤ sizeLine; decide), fun l4 hl4 => ?_⟩
    have q4 := same_new (o := .lst [V.str "wrap", V.str "stop"]) hl4
    have n4 : l4 ≠ w1 := w3.ne hl4
    refine ⟨_, rfl, w1, 0 + 1 + 1, 2, rfl, (w3.same q4), by decide, by decide, by decide, fun r4 H4 r40 r41 d4 d4' w4 => ?_⟩
    obtain ⟨st, hst⟩ : ∃ st, atI [V.str "wrap", V.str "stop"] r4 = some (.str (endS st)) := by
      rcases (by omega : r4 = 0 ∨ r4 = 1) with rfl | rfl
      · exact ⟨false, rfl⟩
      · exact ⟨true, rfl⟩
    refine ⟨l4, _, r4, _, rfl, rfl, SqL.of (d4 _ _ n4 upd_same), hst, ?_⟩
    have S4 : Same H H4 := same_but s1 ((d2.trans d3).trans ((SameBut.of q4).trans d4)) hw1
    obtain ⟨y, hy⟩ : ∃ y, y = 2 + r2 := ⟨_, rfl⟩
    obtain ⟨pt, hpt⟩ : ∃ pt, pt = r3 - 64 := ⟨_, rfl⟩
    have y2 : 2 ≤ y := by omega
    have y64 : y ≤ 64 := by omega
    have p0 : -64 ≤ pt := by omega
    have p1 : pt ≤ 64 := by omega
    have hwok : WOk (some y) := fun x hx => by cases hx; exact ⟨y2, y64⟩
    have hwno : WOk none := fun x hx => by cases hx
    dsimp only
    rw [← hy, ← hpt]
    clear hy hpt hst n4 q4 d2 d3 d4 d2' d3' d4' w2 w3 w4 k1 s1 hw1 hl4
    refine ⟨_, rfl, _, rfl, _, rfl, fun x dx hx hdx nx => ⟨x, dx, some y, pt, .half, st, rfl, hwok, p0, p1, upd_same, fun H5 f5 kp5 kn5 => ⟨rfl, ?_⟩⟩⟩
    have S5 : Same H4 H5 := fun b o e => kp5 b o (ne_of_none e hx) (by rw [upd_ne (ne_of_none e hx), upd_ne (ne_of_none e hdx)]; exact e)
    obtain ⟨pf, rfl⟩ : ∃ pf, pf = x := ⟨_, rfl⟩
    clear kp5 kn5 hx hdx nx
    refine ⟨_, rfl, _, rfl, rfl, rfl, fun x dx hx hdx nx => ⟨x, dx, none, pt, .half, st, rfl, hwno, p0, p1, upd_same, fun H6 f6 kp6 kn6 => ⟨rfl, ?_⟩⟩⟩
    have S6 : Same H5 H6 := fun b o e => kp6 b o (ne_of_none e hx) (by rw [upd_ne (ne_of_none e hx), upd_ne (ne_of_none e hdx)]; exact e)
    obtain ⟨pz, rfl⟩ : ∃ pz, pz = x := ⟨_, rfl⟩
    clear kp6 kn6 hx hdx nx
    have f56 := f5.same S6
    have SH : Same H H6 := (S4.trans S5).trans S6
    obtain ⟨t2, t64⟩ := two_big y2 y64
    refine ⟨_, rfl, _, _, rfl, rfl, _, _, rfl, rfl, ⟨by omega, by omega, by decide⟩, ?_⟩
    dsimp only
    rw [show (1 : Int) * 2 ^ (y - 1).toNat = two (y - 1) from Int.one_mul _]
    refine ⟨_, rfl, as, ns, 1, rfl, SH.seq hS, _, rfl, fun w2 hw2 H7 s7 k7 => ?_⟩
    refine ⟨_, rfl, w2, 0, 4, rfl, k7, by decide, by decide, by decide, fun r6 H8 r60 r61 d8 d8' k8 => ?_⟩
    have S8 : Same H6 H8 := same_but s7 d8 hw2
    refine ⟨_, rfl, as, ns, 2, rfl, (SH.trans S8).seq hS, _, rfl, fun w3 hw3 H9 s9 k9 => ?_⟩
    have n23 : w3 ≠ w2 := k8.ne hw3
    have W2 : WellAt H9 w2 1 := k8.same s9
    refine ⟨_, rfl, _, rfl, _, _, rfl, rfl, .inl ⟨by decide, by decide⟩, w2, 1, _, rfl, W2, by decide, by omega, up (show (2 * two (y - 1)).natAbs < 2 ^ 65 by omega) (by decide), fun r7 H10 r70 r71 d10 d10' k10 => ⟨_, rfl, _, _, rfl, rfl, _, rfl, _, rfl, _, _, rfl, rfl, _, rfl, _, _, rfl, rfl, (by show 4 ≤ sizeLine; decide), fun l6 hl6 => ?_⟩⟩
    obtain ⟨n1, hn1, i1⟩ := four (y := y) t2 r60 r61
    have q6 := same_new (o := .lst [V.int 0, V.int (-1), V.int (0 - two (y - 1)), V.int (two (y - 1) - 1)]) hl6
    refine ⟨_, rfl, l6, _, r6, _, rfl, rfl, SqL.of upd_same, hn1, _, rfl, (by show 4 ≤ sizeLine; decide), fun l7 hl7 => ?_⟩
    have q7 := same_new (o := .lst [V.int (r7 - two (y - 1)), V.int n1, V.int 1, V.int (-2)]) hl7
    have W3 : WellAt H10 w3 0 := k9.but d10 n23
    have ne2 : ∀ {p : Addr} {o : HO}, H6 p = some o → p ≠ w2 := fun e z => by rw [z, hw2] at e; cases e
    have ne3 : ∀ {p : Addr} {o : HO}, H6 p = some o → p ≠ w3 := fun e z => by rw [z] at e; rw [S8 _ _ e] at hw3; cases hw3
    have SB : Same H6 (upd (upd H10 l6 (.lst [V.int 0, V.int (-1), V.int (0 - two (y - 1)), V.int (two (y - 1) - 1)])) l7 (.lst [V.int (r7 - two (y - 1)), V.int n1, V.int 1, V.int (-2)])) := fun b o e => q7 _ _ (q6 _ _ (d10 _ _ (ne2 e) (s9 _ _ (S8 _ _ e))))
    have WW2 := (k10.same q6).same q7
    have WW3 := (W3.same q6).same q7
    have hl77 : (upd (upd H10 l6 (.lst [V.int 0, V.int (-1), V.int (0 - two (y - 1)), V.int (two (y - 1) - 1)])) l7 (.lst [V.int (r7 - two (y - 1)), V.int n1, V.int 1, V.int (-2)])) l7 = some (.lst [V.int (r7 - two (y - 1)), V.int n1, V.int 1, V.int (-2)]) := upd_same
    have n73 : l7 ≠ w3 := (W3.same q6).ne hl7
    generalize upd (upd H10 l6 (.lst [V.int 0, V.int (-1), V.int (0 - two (y - 1)), V.int (two (y - 1) - 1)])) l7 (.lst [V.int (r7 - two (y - 1)), V.int n1, V.int 1, V.int (-2)]) = B at *
    have fB := f56.same SB
    have zB := f6.same SB
    have hPtB := SB _ _ (SH _ _ hPt)
    have nf3 : pf ≠ w3 := let ⟨_, e⟩ := f56.ob; ne3 e
    have nz3 : pz ≠ w3 := let ⟨_, e⟩ := f6.ob; ne3 e
    have TB0 : LamX.Tabs [(Pt, lawQ)] B := fun p hp => by
      simp only [List.mem_cons, List.not_mem_nil, or_false] at hp
      subst hp
      exact .nil hPtB
    clear q6 q7 hl6 hl7 hn1 k10 d10 d10' W3 W2 k9 s9 hw3 S8 d8 d8' k8 k7 s7 hw2 S6 S5 f5 f6 f56 SB ne2 ne3 SH S4 hPtB
    refine ⟨l7, rfl, ⟨_, SqL.of hl77⟩, for_list (xs := [V.int (r7 - two (y - 1)), V.int n1, V.int 1, V.int (-2)]) (fun i σ H' => ∃ v8 v10 v11 v14 : Option V, σ = [some (.ref as), some (.ref w2), some (.int y), some (.int pt), some (.str (endS st)), some (.int (two (y - 1))), some (.int r6), some (.ref w3), v8, none, v10, v11, some (.ref pf), some (.ref pz), v14, none] ∧ EB w3 B H' ∧ LamX.Tabs [(Pt, lawQ)] H' ∧ WellAt H' w3 (3 * i)) ⟨none, none, none, none, rfl, EB.refl _ _, TB0, WW3.mono (by decide)⟩ (fun i σ H' _ hP => ?_) (fun i x σ H' hx hP => ?_) (fun σ H' hP => ?_)⟩
    · obtain ⟨v8, v10, v11, v14, rfl, eb, _, _⟩ := hP
      exact SqL.of (eb _ _ n73 hl77 (fun _ z => by cases z))
    · obtain ⟨v8, v10, v11, v14, rfl, eb, tb0, wl⟩ := hP
      obtain ⟨n, rfl, hn, i4⟩ : ∃ n, x = .int n ∧ inR (some y) n = true ∧ i < 4 := by
        match i, hx with
        | 0, hx => exact ⟨_, (Option.some.inj hx).symm, in_of (by omega) (by omega), by decide⟩
        | 1, hx => exact ⟨_, (Option.some.inj hx).symm, i1, by decide⟩
        | 2, hx => exact ⟨_, (Option.some.inj hx).symm, in_of (by omega) (by omega), by decide⟩
        | 3, hx => exact ⟨_, (Option.some.inj hx).symm, in_of (by omega) (by omega), by decide⟩
        | k + 4, hx => simp at hx
      have ff0 := eb.form nf3 fB
      have fz0 := eb.form nz3 zB
      obtain ⟨dxf, hof⟩ := ff0.ob
      have ln := lowb_len y.toNat n
      refine ⟨_, rfl, _, rfl, n, y, rfl, by omega, y64, ?_⟩
      refine ⟨_, rfl, pf, dxf, _, rfl, hof, fl_no (by decide +kernel), _, rfl, pf, some y, pt, .half, st, .int n, rfl, ff0, .inl ⟨y, n, rfl, rfl, hn, _, rfl, rfl, _, rfl, ?_⟩⟩
      refine iteC (d := false) (by rw [decide_eq_true rfl]; rfl) (iteF ?_)
      refine ⟨_, rfl, pf, dxf, _, rfl, hof, fl_no (by decide +kernel), _, rfl, rfl, pf, some y, pt, .half, st, .int n, rfl, ff0, .inl ⟨y, n, rfl, rfl, hn, _, rfl, rfl, _, rfl, ?_⟩⟩
      refine iteC (d := false) (by rw [decide_eq_true rfl]; rfl) (iteF ?_)
      refine ⟨_, rfl, pf, dxf, _, rfl, hof, fl_no (by decide +kernel), _, rfl, pf, some y, pt, .half, st, .int n, rfl, ff0, .inl ⟨y, n, rfl, rfl, hn, _, .ty "str", _, _, true, rfl, .ty _, .base (.str _), kit_ty (by decide +kernel), _, rfl, iteF ?_⟩⟩
      refine ⟨_, rfl, pf, dxf, _, rfl, hof, fl_no (by decide +kernel), _, rfl, pf, some y, pt, .half, st, _, rfl, ff0, .inl ⟨y, n, rfl, rfl, hn, fun G1 g1 => ?_⟩⟩
      have ff1 := ff0.same g1
      have hof1 := g1 _ _ hof
      refine ⟨_, rfl, _, .ty "int", _, _, true, rfl, .ty _, .base (.int _), kit_ty (by decide +kernel), _, rfl, iteF ⟨_, rfl, _, .ty "bool", _, _, false, rfl, .ty _, .base (.int _), kit_ty (by decide +kernel), _, rfl, iteF ⟨_, rfl, _, rfl, rfl, _, rfl, ?_⟩⟩⟩
      refine iteC (d := false) (by rw [decide_eq_true rfl]; rfl) (iteF ?_)
      refine ⟨_, rfl, pf, dxf, _, rfl, hof1, fl_no (by decide +kernel), _, rfl, rfl, pf, some y, pt, .half, st, _, rfl, ff1, .inl ⟨y, n, rfl, rfl, hn, fun G2 g2 => ⟨_, rfl, rfl, _, rfl, ?_⟩⟩⟩
      refine iteC (d := false) (by rw [decide_eq_true rfl]; rfl) (iteF ?_)
      have g12 := g1.trans g2
      refine ⟨_, rfl, _, rfl, lowb n y.toNat, w3, 3 * i, rfl, wl.same g12, by omega, by omega, by omega, fun l' G3 nb ll' sb3 wl3 => ?_⟩
      have eb3 : EB w3 B G3 := (eb.same g12).but sb3
      have tb3 := tabs_but (tb0.ext g12) sb3 (wl.same g12)
      have ff3 := eb3.form nf3 fB
      have fz3 := eb3.form nz3 zB
      rw [ln] at nb
      refine ⟨tb3, fun Aa ena Ta => fun Ea Qa hU hT => ?_⟩
      have ffa := ext_form ena ff3
      have fza := ext_form ena fz3
      obtain ⟨dxa, hoa⟩ := ffa.ob
      refine ⟨_, rfl, pf, dxa, _, rfl, hoa, fl_no (by decide +kernel), _, rfl, pf, some y, pt, .half, st, _, rfl, ffa, .inr ⟨nb.is (by omega) (by omega), fun da Ba sba hda => hT da Ba hda fun pa Da sda hpa => ?_⟩⟩
      refine ⟨(by show 2 ≤ sizeLine; decide), fun ua hua => ?_⟩
      have sua := same_new (o := .tup [.str "text", .int 0]) hua
      refine ⟨.tuple [.str "text", .int 0], .tuple [.str "text", .int 0], .tup (SqT.of (sua _ _ hpa)) (.cons (.str _) (.cons (.int _) .nil)), .tup (SqT.of upd_same) (.cons (.str _) (.cons (.int _) .nil)), (by decide +kernel), (by decide +kernel), _, rfl, ?_⟩
      refine iteC (c := !PyData.eqv (.tuple [.str "text", .int 0]) (.tuple [.str "text", .int 0])) (d := false) (by decide +kernel) (iteF ?_)
      have Sa : Same Aa (upd Da ua (.tup [.str "text", .int 0])) := (sba.trans sda).trans sua
      generalize upd Da ua (.tup [.str "text", .int 0]) = Ga at *
      have tbGa := Ta.ext Sa
      have ffGa := ffa.same Sa
      have fzGa := fza.same Sa
      have eGa : LamX.ExtN _ Ga := ena.trans (.of Sa)

      have e1 : cutS (txt (lowb n y.toNat)) (some (1 : Int)) none = txt ((lowb n y.toNat).drop 1) := cut_from (k := 1)
      have e2 : txt ((lowb n y.toNat).drop 1) ++ Str.ofString "\n" = txt ((lowb n y.toNat).drop 1 ++ [10]) := txt_app _ [10]
      have nb2 : NotB y.toNat ((lowb n y.toNat).drop 1 ++ [10]) := .inr ⟨10, by simp, by decide, by decide⟩
      have l2 : ((lowb n y.toNat).drop 1 ++ [10]).length ≤ 1000 := by rw [List.length_append, List.length_drop]; show _ + 1 ≤ 1000; omega
      refine ⟨tbGa, fun Ab enb Tb => fun Eb Qb hU hT => ?_⟩
      have ffb := ext_form enb ffGa
      have fzb := ext_form enb fzGa
      obtain ⟨dxb, hob⟩ := ffb.ob
      refine ⟨_, rfl, pf, dxb, _, rfl, hob, fl_no (by decide +kernel), _, rfl, _, rfl, _, rfl, (by rw [txt_len]; exact Nat.le_of_lt (small1000' (by omega))), _, _, rfl, rfl, (by rw [e1, txt_len, List.length_drop]; exact Nat.le_of_lt (small1000' (show _ + 1 ≤ 1000 by omega))), pf, some y, pt, .half, st, _, rfl, ffb, .inr ⟨(by rw [e1, e2]; exact nb2.is l2 (by omega)), fun db Bb sbb hdb => hT db Bb hdb fun pb Db sdb hpb => ?_⟩⟩
      refine ⟨(by show 2 ≤ sizeLine; decide), fun ub hub => ?_⟩
      have sub := same_new (o := .tup [.str "text", .int 0]) hub
      refine ⟨.tuple [.str "text", .int 0], .tuple [.str "text", .int 0], .tup (SqT.of (sub _ _ hpb)) (.cons (.str _) (.cons (.int _) .nil)), .tup (SqT.of upd_same) (.cons (.str _) (.cons (.int _) .nil)), (by decide +kernel), (by decide +kernel), _, rfl, ?_⟩
      refine iteC (c := !PyData.eqv (.tuple [.str "text", .int 0]) (.tuple [.str "text", .int 0])) (d := false) (by decide +kernel) (iteF ?_)
      have Sb : Same Ab (upd Db ub (.tup [.str "text", .int 0])) := (sbb.trans sdb).trans sub
      generalize upd Db ub (.tup [.str "text", .int 0]) = Gb at *
      have tbGb := Tb.ext Sb
      have ffGb := ffb.same Sb
      have fzGb := fzb.same Sb
      have eGb : LamX.ExtN _ Gb := enb.trans (.of Sb)

      refine ⟨tbGb, fun Ac enc Tc => fun Ec Qc hU hT => ?_⟩
      have ffc := ext_form enc ffGb
      have fzc := ext_form enc fzGb
      obtain ⟨dxc, hoc⟩ := fzc.ob
      refine ⟨_, rfl, pz, dxc, _, rfl, hoc, fl_no (by decide +kernel), _, rfl, pz, none, pt, .half, st, _, rfl, fzc, .inr ⟨.inl rfl, fun dc Bc sbc hdc => hU dc Bc hdc fun pc Dc sdc hpc => ?_⟩⟩
      refine ⟨(by show 2 ≤ sizeLine; decide), fun uc huc => ?_⟩
      have suc := same_new (o := .tup [.str "word", .int 0]) huc
      refine ⟨.tuple [.str "word", .int 0], .tuple [.str "word", .int 0], .tup (SqT.of (suc _ _ hpc)) (.cons (.str _) (.cons (.int _) .nil)), .tup (SqT.of upd_same) (.cons (.str _) (.cons (.int _) .nil)), (by decide +kernel), (by decide +kernel), _, rfl, ?_⟩
      refine iteC (c := !PyData.eqv (.tuple [.str "word", .int 0]) (.tuple [.str "word", .int 0])) (d := false) (by decide +kernel) (iteF ?_)
      have Sc : Same Ac (upd Dc uc (.tup [.str "word", .int 0])) := (sbc.trans sdc).trans suc
      generalize upd Dc uc (.tup [.str "word", .int 0]) = Gc at *
      have tbGc := Tc.ext Sc
      have ffGc := ffc.same Sc
      have fzGc := fzc.same Sc
      have eGc : LamX.ExtN _ Gc := enc.trans (.of Sc)

      refine ⟨tbGc, fun Ae ene Te => fun Ee Qe hU hT => ?_⟩
      have ffe := ext_form ene ffGc
      have fze := ext_form ene fzGc
      obtain ⟨dxe, hoe⟩ := fze.ob
      refine ⟨_, rfl, pz, dxe, _, rfl, hoe, fl_no (by decide +kernel), _, rfl, pz, none, pt, .half, st, _, rfl, fze, .inr ⟨.inl ⟨rfl, rfl⟩, fun de Be sbe hde => hT de Be hde fun pe De sde hpe => ?_⟩⟩
      refine ⟨(by show 2 ≤ sizeLine; decide), fun ue hue => ?_⟩
      have sue := same_new (o := .tup [.str "text", .int 0]) hue
      refine ⟨.tuple [.str "text", .int 0], .tuple [.str "text", .int 0], .tup (SqT.of (sue _ _ hpe)) (.cons (.str _) (.cons (.int _) .nil)), .tup (SqT.of upd_same) (.cons (.str _) (.cons (.int _) .nil)), (by decide +kernel), (by decide +kernel), _, rfl, ?_⟩
      refine iteC (c := !PyData.eqv (.tuple [.str "text", .int 0]) (.tuple [.str "text", .int 0])) (d := false) (by decide +kernel) (iteF ?_)
      have Se : Same Ae (upd De ue (.tup [.str "text", .int 0])) := (sbe.trans sde).trans sue
      generalize upd De ue (.tup [.str "text", .int 0]) = Ge at *
      have tbGe := Te.ext Se
      have ffGe := ffe.same Se
      have fzGe := fze.same Se
      have eGe : LamX.ExtN _ Ge := ene.trans (.of Se)

      have eAll := ((eGa.trans eGb).trans eGc).trans eGe
      exact ⟨_, _, _, _, rfl, eb3.ext eAll, tbGe, (ext_well eAll wl3).mono (by omega)⟩
    obtain ⟨v8, v10, v11, v14, rfl, eb, tb0, wl⟩ := hP
    have ff0 := eb.form nf3 fB
    have fz0 := eb.form nz3 zB
    have W2 : WellAt H' w2 2 := by
      obtain ⟨i, j, k, e, hh⟩ := WW2
      exact ⟨i, j, k, eb _ _ n23.symm e (fun _ z => by cases z), hh⟩
    clear WW2 wl eb fB zB TB0 WW3
    refine ⟨_, rfl, _, rfl, _, _, rfl, rfl, _, _, rfl, rfl, _, rfl, _, rfl, _, _, rfl, rfl, ⟨by decide, by decide, by decide⟩, w2, 2, _, rfl, W2, by decide, by decide, by decide, fun r8 H8 r80 r81 d8 d8' k8 => ⟨_, _, rfl, rfl, (by show 1 ≤ sizeLine; decide), fun l1 hl1 => ⟨(by show 1 ≤ sizeLine; decide), fun l2 hl2 => fun l3 hl3 => ⟨(by show 9 ≤ sizeLine; decide), fun l9 hl9 => ?_⟩⟩⟩⟩
    have tb8 := tabs_but tb0 d8 W2
    have w2l : ∀ {p : Addr} {o : HO}, H' p = some o → (∀ xs, o ≠ .lst xs) → H8 p = some o := fun {p o} e n => d8 _ _ (fun z => by
      obtain ⟨i, j, k, ee, _⟩ := W2
      rw [z, ee] at e
      exact n _ (Option.some.inj e).symm) e
    have ff8 : FormAt C H8 pf (some y) pt .half st := let ⟨⟨dx, e⟩, a, b, c⟩ := ff0; ⟨⟨dx, w2l e (fun _ z => by cases z)⟩, a, b, c⟩
    have fz8 : FormAt C H8 pz none pt .half st := let ⟨⟨dx, e⟩, a, b, c⟩ := fz0; ⟨⟨dx, w2l e (fun _ z => by cases z)⟩, a, b, c⟩
    have q1 := same_new (o := .tup [.int 0]) hl1
    have q2 := same_new (o := .lst [.int 1]) hl2
    have q3 := same_new (o := .dK []) hl3
    have q9 := same_new (o := .lst [V.int (two (y - 1)), V.int (0 - two (y - 1) - 1), V.int (two (y - 1) + r8), V.non, V.bl true, V.str "0", V.ref l1, V.ref l2, V.ref l3]) hl9
    have E1 := q9 _ _ (q3 _ _ (q2 _ _ (upd_same (H := H8) (a := l1) (o := .tup [.int 0]))))
    have E2 := q9 _ _ (q3 _ _ (upd_same (H := upd H8 l1 (.tup [.int 0])) (a := l2) (o := .lst [.int 1])))
    have E3 := q9 _ _ (upd_same (H := upd (upd H8 l1 (.tup [.int 0])) l2 (.lst [.int 1])) (a := l3) (o := .dK []))
    have E9 : (upd (upd (upd (upd H8 l1 (.tup [.int 0])) l2 (.lst [.int 1])) l3 (.dK [])) l9 (.lst [V.int (two (y - 1)), V.int (0 - two (y - 1) - 1), V.int (two (y - 1) + r8), V.non, V.bl true, V.str "0", V.ref l1, V.ref l2, V.ref l3])) l9 = some (.lst [V.int (two (y - 1)), V.int (0 - two (y - 1) - 1), V.int (two (y - 1) + r8), V.non, V.bl true, V.str "0", V.ref l1, V.ref l2, V.ref l3]) := upd_same
    have S9 : Same H8 _ := q1.trans (q2.trans (q3.trans q9))
    generalize upd (upd (upd (upd H8 l1 (.tup [.int 0])) l2 (.lst [.int 1])) l3 (.dK [])) l9 (.lst [V.int (two (y - 1)), V.int (0 - two (y - 1) - 1), V.int (two (y - 1) + r8), V.non, V.bl true, V.str "0", V.ref l1, V.ref l2, V.ref l3]) = B2 at *
    have ffB := ff8.same S9
    have fzB := fz8.same S9
    have tbB := tb8.ext S9
    have items : ∀ (i : Nat) (x : V), ([V.int (two (y - 1)), V.int (0 - two (y - 1) - 1), V.int (two (y - 1) + r8), V.non, V.bl true, V.str "0", V.ref l1, V.ref l2, V.ref l3] : List V)[i]? = some x → NW y B2 x := fun i x hx => by
      match i, hx with
      | 0, hx => cases hx; exact .inl ⟨_, rfl, out_of (by omega)⟩
      | 1, hx => cases hx; exact .inl ⟨_, rfl, out_of (by omega)⟩
      | 2, hx => cases hx; exact .inl ⟨_, rfl, out_of (by omega)⟩
      | 3, hx => cases hx; exact .inr (.inr ⟨_, .non, by decide +kernel⟩)
      | 4, hx => cases hx; exact .inr (.inl ⟨_, rfl⟩)
      | 5, hx => cases hx; exact .inr (.inr ⟨_, .str _, by decide +kernel⟩)
      | 6, hx => cases hx; exact .inr (.inr ⟨_, .tup E1, by decide +kernel⟩)
      | 7, hx => cases hx; exact .inr (.inr ⟨_, .lst E2, by decide +kernel⟩)
      | 8, hx => cases hx; exact .inr (.inr ⟨_, .dK E3, by decide +kernel⟩)
      | k + 9, hx => simp at hx
    clear E1 E2 E3 q1 q2 q3 q9 hl1 hl2 hl3 hl9 S9 ff8 fz8 tb8 ff0 fz0 tb0 w2l d8 d8' k8 W2
    refine ⟨_, rfl, l9, rfl, ⟨_, SqL.of E9⟩, for_list (xs := [V.int (two (y - 1)), V.int (0 - two (y - 1) - 1), V.int (two (y - 1) + r8), V.non, V.bl true, V.str "0", V.ref l1, V.ref l2, V.ref l3]) (fun i σ H' => ∃ v15 : Option V, σ = [some (.ref as), some (.ref w2), some (.int y), some (.int pt), some (.str (endS st)), some (.int (two (y - 1))), some (.int r6), some (.ref w3), v8, some (.ref l9), v10, v11, some (.ref pf), some (.ref pz), v14, v15] ∧ LamX.ExtN B2 H' ∧ LamX.Tabs [(Pt, lawQ)] H') ⟨none, rfl, LamX.ExtN.refl _, tbB⟩ (fun i σ H' _ hP => ?_) (fun i x σ H' hx hP => ?_) (fun σ H' hP => ?_)⟩
    · obtain ⟨v15, rfl, eb, _⟩ := hP
      exact SqL.of (eb _ _ E9 (fun _ z => by cases z))
    · obtain ⟨v15, rfl, eb, tbL⟩ := hP
      have ffL := ext_form eb ffB
      have fzL := ext_form eb fzB
      have hnw := items i x hx
      refine ⟨tbL, fun Aa ena Ta => fun Ea Qa hU hT => ?_⟩
      have ffa := ext_form ena ffL
      have fza := ext_form ena fzL
      obtain ⟨dxa, hoa⟩ := ffa.ob
      refine ⟨_, rfl, pf, dxa, _, rfl, hoa, fl_no (by decide +kernel), _, rfl, pf, some y, pt, .half, st, x, rfl, ffa, .inr ⟨.inr ((hnw.keep ((StaysV.ext eb).trans (.ext ena))).is), fun da Ba sba hda => hU da Ba hda fun pa Da sda hpa => ?_⟩⟩
      refine ⟨(by show 2 ≤ sizeLine; decide), fun ua hua => ?_⟩
      have sua := same_new (o := .tup [.str "word", .int 0]) hua
      refine ⟨.tuple [.str "word", .int 0], .tuple [.str "word", .int 0], .tup (SqT.of (sua _ _ hpa)) (.cons (.str _) (.cons (.int _) .nil)), .tup (SqT.of upd_same) (.cons (.str _) (.cons (.int _) .nil)), (by decide +kernel), (by decide +kernel), _, rfl, ?_⟩
      refine iteC (c := !PyData.eqv (.tuple [.str "word", .int 0]) (.tuple [.str "word", .int 0])) (d := false) (by decide +kernel) (iteF ?_)
      have Sa : Same Aa (upd Da ua (.tup [.str "word", .int 0])) := (sba.trans sda).trans sua
      generalize upd Da ua (.tup [.str "word", .int 0]) = Ga at *
      have tbGa := Ta.ext Sa
      have ffGa := ffa.same Sa
      have fzGa := fza.same Sa
      have eGa : LamX.ExtN _ Ga := ena.trans (.of Sa)

      exact ⟨_, rfl, eb.trans eGa, tbGa⟩
    obtain ⟨v15, rfl, eb, tbL⟩ := hP
    have ffL := ext_form eb ffB
    have fzL := ext_form eb fzB
    clear eb tbB ffB fzB items E9
    refine ⟨(by show 1 ≤ sizeLine; decide), fun m1 hm1 => ⟨_, rfl, m1, y, _, rfl, rfl, upd_same, by omega, by omega, (by show 1 * y.toNat ≤ sizeLine; exact Nat.le_of_lt (small1000' (by omega))), fun m2 hm2 => ⟨(by show 1 ≤ sizeLine; decide), fun m3 hm3 => ⟨_, rfl, m3, y, _, rfl, rfl, SqT.of upd_same, by simp, y2, by omega, by decide, fun m4 hm4 => ⟨_, _, rfl, rfl, ⟨by decide, by decide, by decide⟩, (by show 0 ≤ sizeLine; decide), fun m5 hm5 => fun m6 hm6 => ⟨(by show 8 ≤ sizeLine; decide), fun m9 hm9 => ?_⟩⟩⟩⟩⟩⟩
    have u1 := fun (o : HO) => same_new (o := o) hm1
    have u2 := fun (o : HO) => same_new (o := o) hm2
    have u3 := fun (o : HO) => same_new (o := o) hm3
    have u4 := fun (o : HO) => same_new (o := o) hm4
    have u5 := fun (o : HO) => same_new (o := o) hm5
    have u6 := fun (o : HO) => same_new (o := o) hm6
    have u9 := fun (o : HO) => same_new (o := o) hm9
    have S3 : Same H' (upd (upd (upd (upd (upd (upd (upd H' m1 (.lst [.str "0"])) m2 (.lst (List.replicate y.toNat [V.str "0"]).flatten)) m3 (.tup [.str "0"])) m4 (.tup (List.replicate y.toNat [V.str "0"]).flatten)) m5 (.lst [])) m6 (.dK [])) m9 (.lst [V.non, V.int 0, V.bl true, V.ref m2, V.ref m4, V.int (10 ^ (5 : Int).toNat), V.ref m5, V.ref m6])) := (u1 _).trans ((u2 _).trans ((u3 _).trans ((u4 _).trans ((u5 _).trans ((u6 _).trans (u9 _))))))
    have E2 : ∃ xs, (upd (upd (upd (upd (upd (upd (upd H' m1 (.lst [.str "0"])) m2 (.lst (List.replicate y.toNat [V.str "0"]).flatten)) m3 (.tup [.str "0"])) m4 (.tup (List.replicate y.toNat [V.str "0"]).flatten)) m5 (.lst [])) m6 (.dK [])) m9 (.lst [V.non, V.int 0, V.bl true, V.ref m2, V.ref m4, V.int (10 ^ (5 : Int).toNat), V.ref m5, V.ref m6])) m2 = some (.lst xs) := ⟨_, u9 _ _ _ (u6 _ _ _ (u5 _ _ _ (u4 _ _ _ (u3 _ _ _ upd_same))))⟩
    have E4 : ∃ xs, (upd (upd (upd (upd (upd (upd (upd H' m1 (.lst [.str "0"])) m2 (.lst (List.replicate y.toNat [V.str "0"]).flatten)) m3 (.tup [.str "0"])) m4 (.tup (List.replicate y.toNat [V.str "0"]).flatten)) m5 (.lst [])) m6 (.dK [])) m9 (.lst [V.non, V.int 0, V.bl true, V.ref m2, V.ref m4, V.int (10 ^ (5 : Int).toNat), V.ref m5, V.ref m6])) m4 = some (.tup xs) := ⟨_, u9 _ _ _ (u6 _ _ _ (u5 _ _ _ upd_same))⟩
    have E5 : ∃ xs, (upd (upd (upd (upd (upd (upd (upd H' m1 (.lst [.str "0"])) m2 (.lst (List.replicate y.toNat [V.str "0"]).flatten)) m3 (.tup [.str "0"])) m4 (.tup (List.replicate y.toNat [V.str "0"]).flatten)) m5 (.lst [])) m6 (.dK [])) m9 (.lst [V.non, V.int 0, V.bl true, V.ref m2, V.ref m4, V.int (10 ^ (5 : Int).toNat), V.ref m5, V.ref m6])) m5 = some (.lst xs) := ⟨_, u9 _ _ _ (u6 _ _ _ upd_same)⟩
    have E6 : ∃ kv, (upd (upd (upd (upd (upd (upd (upd H' m1 (.lst [.str "0"])) m2 (.lst (List.replicate y.toNat [V.str "0"]).flatten)) m3 (.tup [.str "0"])) m4 (.tup (List.replicate y.toNat [V.str "0"]).flatten)) m5 (.lst [])) m6 (.dK [])) m9 (.lst [V.non, V.int 0, V.bl true, V.ref m2, V.ref m4, V.int (10 ^ (5 : Int).toNat), V.ref m5, V.ref m6])) m6 = some (.dK kv) := ⟨_, u9 _ _ _ upd_same⟩
    have E9 : (upd (upd (upd (upd (upd (upd (upd H' m1 (.lst [.str "0"])) m2 (.lst (List.replicate y.toNat [V.str "0"]).flatten)) m3 (.tup [.str "0"])) m4 (.tup (List.replicate y.toNat [V.str "0"]).flatten)) m5 (.lst [])) m6 (.dK [])) m9 (.lst [V.non, V.int 0, V.bl true, V.ref m2, V.ref m4, V.int (10 ^ (5 : Int).toNat), V.ref m5, V.ref m6])) m9 = some (.lst [V.non, V.int 0, V.bl true, V.ref m2, V.ref m4, V.int (10 ^ (5 : Int).toNat), V.ref m5, V.ref m6]) := upd_same
    generalize (upd (upd (upd (upd (upd (upd (upd H' m1 (.lst [.str "0"])) m2 (.lst (List.replicate y.toNat [V.str "0"]).flatten)) m3 (.tup [.str "0"])) m4 (.tup (List.replicate y.toNat [V.str "0"]).flatten)) m5 (.lst [])) m6 (.dK [])) m9 (.lst [V.non, V.int 0, V.bl true, V.ref m2, V.ref m4, V.int (10 ^ (5 : Int).toNat), V.ref m5, V.ref m6])) = B3 at *
    clear u1 u2 u3 u4 u5 u6 u9 hm1 hm2 hm3 hm4 hm5 hm6 hm9
    have ffB := ffL.same S3
    have fzB := fzL.same S3
    have tbB := tbL.ext S3
    have items : ∀ (i : Nat) (x : V), ([V.non, V.int 0, V.bl true, V.ref m2, V.ref m4, V.int (10 ^ (5 : Int).toNat), V.ref m5, V.ref m6] : List V)[i]? = some x → NB B3 x := fun i x hx => by
      match i, hx with
      | 0, hx => cases hx; exact ⟨_, .non, by decide +kernel⟩
      | 1, hx => cases hx; exact ⟨_, .int _, by decide +kernel⟩
      | 2, hx => cases hx; exact ⟨_, .bl _, by decide +kernel⟩
      | 3, hx => cases hx; obtain ⟨_, E2⟩ := E2; exact ⟨_, .lst E2, by decide +kernel⟩
      | 4, hx => cases hx; obtain ⟨_, E4⟩ := E4; exact ⟨_, .tup E4, by decide +kernel⟩
      | 5, hx => cases hx; exact ⟨_, .int _, by decide +kernel⟩
      | 6, hx => cases hx; obtain ⟨_, E5⟩ := E5; exact ⟨_, .lst E5, by decide +kernel⟩
      | 7, hx => cases hx; obtain ⟨_, E6⟩ := E6; exact ⟨_, .dK E6, by decide +kernel⟩
      | k + 8, hx => simp at hx
    clear E2 E4 E5 E6 S3 ffL fzL tbL
    refine ⟨m9, rfl, ⟨_, SqL.of E9⟩, for_list (xs := [V.non, V.int 0, V.bl true, V.ref m2, V.ref m4, V.int (10 ^ (5 : Int).toNat), V.ref m5, V.ref m6]) (fun i σ H' => ∃ v15 : Option V, σ = [some (.ref as), some (.ref w2), some (.int y), some (.int pt), some (.str (endS st)), some (.int (two (y - 1))), some (.int r6), some (.ref w3), v8, some (.ref l9), v10, v11, some (.ref pf), some (.ref pz), v14, v15] ∧ LamX.ExtN B3 H' ∧ LamX.Tabs [(Pt, lawQ)] H') ⟨_, rfl, LamX.ExtN.refl _, tbB⟩ (fun i σ H' _ hP => ?_) (fun i x σ H' hx hP => ?_) (fun σ H' hP => ?_)⟩
    · obtain ⟨v15, rfl, eb, _⟩ := hP
      exact SqL.of (eb _ _ E9 (fun _ z => by cases z))
    · obtain ⟨v15, rfl, eb, tbL⟩ := hP
      have ffL := ext_form eb ffB
      have fzL := ext_form eb fzB
      have hnb := items i x hx
      refine ⟨tbL, fun Aa ena Ta => fun Ea Qa hU hT => ?_⟩
      have ffa := ext_form ena ffL
      have fza := ext_form ena fzL
      obtain ⟨dxa, hoa⟩ := ffa.ob
      refine ⟨_, rfl, pf, dxa, _, rfl, hoa, fl_no (by decide +kernel), _, rfl, pf, some y, pt, .half, st, x, rfl, ffa, .inr ⟨((hnb.keep ((StaysV.ext eb).trans (.ext ena))).is), fun da Ba sba hda => hT da Ba hda fun pa Da sda hpa => ?_⟩⟩
      refine ⟨(by show 2 ≤ sizeLine; decide), fun ua hua => ?_⟩
      have sua := same_new (o := .tup [.str "text", .int 0]) hua
      refine ⟨.tuple [.str "text", .int 0], .tuple [.str "text", .int 0], .tup (SqT.of (sua _ _ hpa)) (.cons (.str _) (.cons (.int _) .nil)), .tup (SqT.of upd_same) (.cons (.str _) (.cons (.int _) .nil)), (by decide +kernel), (by decide +kernel), _, rfl, ?_⟩
      refine iteC (c := !PyData.eqv (.tuple [.str "text", .int 0]) (.tuple [.str "text", .int 0])) (d := false) (by decide +kernel) (iteF ?_)
      have Sa : Same Aa (upd Da ua (.tup [.str "text", .int 0])) := (sba.trans sda).trans sua
      generalize upd Da ua (.tup [.str "text", .int 0]) = Ga at *
      have tbGa := Ta.ext Sa
      have ffGa := ffa.same Sa
      have fzGa := fza.same Sa
      have eGa : LamX.ExtN _ Ga := ena.trans (.of Sa)

      exact ⟨_, rfl, eb.trans eGa, tbGa⟩
    obtain ⟨v15, rfl, eb, _⟩ := hP
    have ffL := ext_form eb ffB
    obtain ⟨dxf, hof⟩ := ffL.ob
    obtain ⟨mo0, mv0⟩ := mul_rep (c := 48) y2 y64
    obtain ⟨mo1, mv1⟩ := mul_rep (c := 49) y2 y64
    refine ⟨_, rfl, pf, dxf, _, rfl, hof, fl_no (by decide +kernel), pf, some y, pt, .half, st, .int 0, rfl, ffL, .inl ⟨y, 0, rfl, rfl, in_of (by omega) (by omega), _, rfl, _, _, rfl, rfl, mo0, rfl, _, rfl, ?_⟩⟩
    refine iteC (d := true) (decide_eq_true (congrArg V.str (by rw [low_zero]; exact mv0.symm))) (iteT ?_)
    refine ⟨_, rfl, pf, dxf, _, rfl, hof, fl_no (by decide +kernel), _, rfl, pf, some y, pt, .half, st, .int (-1), rfl, ffL, .inl ⟨y, -1, rfl, rfl, in_of (by omega) (by omega), _, rfl, _, _, rfl, rfl, mo1, rfl, ?_⟩⟩
    exact qt (Q := Q) (congrArg V.str (by rw [low_ones]; exact mv1.symm)) (q _)

end
end E1

namespace E1
open PySem PySem.Spec PyProof.Rows L2

abbrev s_Unfit___init__ : Stmt := inClass (topS 5) 0
theorem unfit_ini {P : Program} {w : World} {K : PySem.W.Frag} {mg : Str → Option Value} {C fI cc T : Addr} {to : Value} {td : Option Addr} {its : Array Value} {tn : Nat} {ts : Array (Option Value)} (lT : K.lookup T = some ⟨to, td, .seq its tn, ts⟩) (h1 : its.size = 1) (EC : PySem.ErrX.ErrC K mg "Unfit" C) (IC : PySem.ErrX.IniC P K mg C fI cc "Unfit.__init__" "at" s_Unfit___init__ (.ref T)) : PySem.ErrX.IniOk P w K mg C fI "at" := by
  refine ⟨IC.iC, IC.tC, fun A R s x t0 v MO hx hnx hroom fv hq => ?_⟩
  refine PySem.ErrX.err_init EC IC ⟨by decide +kernel, by decide +kernel, by decide +kernel, by decide +kernel, by decide +kernel⟩ rfl rfl ?_ ?_ rfl rfl MO hx hnx hroom fv ?_ hq
  · intro e he
    simp only [List.mem_cons, List.not_mem_nil, or_false] at he
    rcases he with rfl | rfl
    · exact .c (by decide)
    · exact .f
  · decide
  · intro kV doc pm an cda ct
    obtain ⟨l⟩ := its
    match l, h1 with
    | [i0], _ =>
      have hk : ∃ k, bindArgs (PySem.W.ksFn "__init__" "Unfit.__init__" (defArgs s_Unfit___init__) (defBody s_Unfit___init__) (defScope s_Unfit___init__) (.ref T) kV doc pm an (.ref cda) ct cc) ⟨[.ref x, v], []⟩ = seqItems? (.ref T) >>= k ∧ k (some [i0].toArray) = pure [(Str.ofString "self", .ref x), ("at", v)] := ⟨_, rfl, rfl⟩
      obtain ⟨k, e1, e2⟩ := hk
      refine BindsTo.of_looks fun M => ?_
      rw [e1]
      exact looks_items MO.kin lT rfl (.of_pure e2)

abbrev s_NoText___init__ : Stmt := inClass (topS 6) 0
theorem notext_ini {P : Program} {w : World} {K : PySem.W.Frag} {mg : Str → Option Value} {C fI cc T : Addr} {to : Value} {td : Option Addr} {its : Array Value} {tn : Nat} {ts : Array (Option Value)} (lT : K.lookup T = some ⟨to, td, .seq its tn, ts⟩) (h1 : its.size = 1) (EC : PySem.ErrX.ErrC K mg "NoText" C) (IC : PySem.ErrX.IniC P K mg C fI cc "NoText.__init__" "line" s_NoText___init__ (.ref T)) : PySem.ErrX.IniOk P w K mg C fI "line" := by
  refine ⟨IC.iC, IC.tC, fun A R s x t0 v MO hx hnx hroom fv hq => ?_⟩
  refine PySem.ErrX.err_init EC IC ⟨by decide +kernel, by decide +kernel, by decide +kernel, by decide +kernel, by decide +kernel⟩ rfl rfl ?_ ?_ rfl rfl MO hx hnx hroom fv ?_ hq
  · intro e he
    simp only [List.mem_cons, List.not_mem_nil, or_false] at he
    rcases he with rfl | rfl
    · exact .c (by decide)
    · exact .f
  · decide
  · intro kV doc pm an cda ct
    obtain ⟨l⟩ := its
    match l, h1 with
    | [i0], _ =>
      have hk : ∃ k, bindArgs (PySem.W.ksFn "__init__" "NoText.__init__" (defArgs s_NoText___init__) (defBody s_NoText___init__) (defScope s_NoText___init__) (.ref T) kV doc pm an (.ref cda) ct cc) ⟨[.ref x, v], []⟩ = seqItems? (.ref T) >>= k ∧ k (some [i0].toArray) = pure [(Str.ofString "self", .ref x), ("line", v)] := ⟨_, rfl, rfl⟩
      obtain ⟨k, e1, e2⟩ := hk
      refine BindsTo.of_looks fun M => ?_
      rw [e1]
      exact looks_items MO.kin lT rfl (.of_pure e2)

theorem vals_drop : ∀ {vs : List V} {us : List Value} (k : Nat), Vals vs us → Vals (vs.drop k) (us.drop k)
  | _, _, 0, r => r
  | _, _, _ + 1, .nil => .nil
  | _, _, k + 1, .cons _ r => vals_drop k r
theorem vals_take : ∀ {vs : List V} {us : List Value} (k : Nat), Vals vs us → Vals (vs.take k) (us.take k)
  | _, _, 0, _ => .nil
  | _, _, _ + 1, .nil => .nil
  | _, _, k + 1, .cons h r => .cons h (vals_take k r)

end E1

namespace E1
open PySem PySem.Spec PyProof.Rows L2

theorem Vals.rev : ∀ {xs : List V} {us : List Value}, Vals xs us → Vals xs.reverse us.reverse
  | _, _, .nil => .nil
  | _, _, .cons r t => by
    rw [List.reverse_cons, List.reverse_cons]
    exact Vals.append (Vals.rev t) (.cons r .nil)
section
variable {P : Program} {w : World} {K : PySem.W.Frag} {mg : Str → Option Value} {base : Heap} {x : Str} {st : Stmt} {f : Addr} {fd : FuncData} {ps ks : List Str} {k n : Nat} {sp : Sp}
/-- a def without defaults: its arguments by keywords alone or behind others -/
theorem Fun.kbn {qual : Str} (F : Fun K x qual st f fd) {g : List Value → List Value → List Value} {gV : List V → List V → List V} (hrel : ∀ {vs : List V} {us : List Value} {zs : List V} {ws : List Value}, Vals vs us → Vals zs ws → Vals (gV vs zs) (g us ws))
    (h : ∀ (kV doc pm : Value) (an : Option Addr) (cdv ct : Value) (us ws : List Value), us.length = n → ws.length = ks.length → bindArgs (PySem.W.fnOf x qual (defArgs st) (defBody st) (defScope st) .none kV doc pm an cdv ct) ⟨us, ks.zip ws⟩ = pure (ps.zip (g us ws))) : KBn K fd ps n ks g gV := by
  obtain ⟨oc, od, kV, doc, pm, an, cdv, ct, osl, rfl, lk, hcd⟩ := F.ex
  exact ⟨fun s us ws _ h1 h2 => .of_eq (h kV doc pm an cdv ct us ws h1 h2), hrel⟩
/-- a def with defaults, all arguments given -/
theorem FunD.kbn {qual : Str} {params : Arguments} {body : List Stmt} {scope : Scope} {dvs : List V} {kws : List (Str × V)} (F : FunD K x qual params body scope dvs kws f fd) (hd : dvs ≠ []) {g : List Value → List Value → List Value} {gV : List V → List V → List V} (hrel : ∀ {vs : List V} {us : List Value} {zs : List V} {ws : List Value}, Vals vs us → Vals zs ws → Vals (gV vs zs) (g us ws))
    (h : ∀ (T : Addr) (kV doc pm : Value) (an : Option Addr) (cdv ct : Value) (us ws its : List Value), us.length = n → ws.length = ks.length → its.length = dvs.length → ∃ k, bindArgs (PySem.W.fnOf x qual params body scope (.ref T) kV doc pm an cdv ct) ⟨us, ks.zip ws⟩ = seqItems? (.ref T) >>= k ∧ k (some its.toArray) = pure (ps.zip (g us ws))) : KBn K fd ps n ks g gV := by
  obtain ⟨oc, od, dV, kV, doc, pm, an, cdv, ct, osl, rfl, lk, hcd, hD, hK⟩ := F.ex
  rcases hD with ⟨e, _⟩ | ⟨_, T, o, its, m, rfl, lT, oT, rT⟩
  · exact absurd e hd
  · refine ⟨fun s us ws X h1 h2 => ?_, hrel⟩
    obtain ⟨k, e1, e2⟩ := h T kV doc pm an cdv ct us ws its h1 h2 rT.length.symm
    refine BindsTo.of_looks fun M => ?_
    rw [e1]
    exact looks_items X lT oT (.of_pure e2)
end
theorem all_mk {l : PySem.W.OpenLaw} {w : World} {K : PySem.W.Frag} {h : Heap} {mg : Str → Option Value} {fa : Addr} {f_is_whole f_downward f_upward f_inward f_outward f_nearest_greater f_nearest_even f_nearest_far f_is_manner f_is_width f_is_point f_is_ends f__law_cell_at f__law_well f__law_draw f__law_bits f__law_refused f__law_spoiled f_law cLaw Pt C f_Form_least f_Form_greatest f_Form_has f_Form_bits f_Form_is_bits f_Form_word_of f_Form___init__ T_Form___init__ A_ENDS A_MANNERS CE CB CN T_CU CU fI_CU cc_CU cda_CU T_CT CT fI_CT cc_CT cda_CT : Addr} (X : K.In h) (G : h.Ns mainGlobals mg) (hfa : mg "law" = some (.ref fa))
    {od_is_whole an_is_whole : Option Addr} {sl_is_whole : Array (Option Value)} {oc_is_whole kV_is_whole dc_is_whole pm_is_whole cd_is_whole ct_is_whole : Value}
    (a_is_whole : PySem.W.nsIn K mainGlobals "is_whole" = some (some (.ref f_is_whole)))
    (l_is_whole : K.lookup f_is_whole = some ⟨oc_is_whole, od_is_whole, .func (PySem.W.fnOf "is_whole" "is_whole" (defArgs s_is_whole) (defBody s_is_whole) (defScope s_is_whole) .none kV_is_whole dc_is_whole pm_is_whole an_is_whole cd_is_whole ct_is_whole), sl_is_whole⟩)
    (c_is_whole : PySem.W.codeIn K cd_is_whole "is_whole" = true)
    (k_is_whole : PySem.W.keepIn K (.ref f_is_whole) = true)
    {od_downward an_downward : Option Addr} {sl_downward : Array (Option Value)} {oc_downward kV_downward dc_downward pm_downward cd_downward ct_downward : Value}
    (a_downward : PySem.W.nsIn K mainGlobals "downward" = some (some (.ref f_downward)))
    (l_downward : K.lookup f_downward = some ⟨oc_downward, od_downward, .func (PySem.W.fnOf "downward" "downward" (defArgs s_downward) (defBody s_downward) (defScope s_downward) .none kV_downward dc_downward pm_downward an_downward cd_downward ct_downward), sl_downward⟩)
    (c_downward : PySem.W.codeIn K cd_downward "downward" = true)
    (k_downward : PySem.W.keepIn K (.ref f_downward) = true)
    {od_upward an_upward : Option Addr} {sl_upward : Array (Option Value)} {oc_upward kV_upward dc_upward pm_upward cd_upward ct_upward : Value}
    (a_upward : PySem.W.nsIn K mainGlobals "upward" = some (some (.ref f_upward)))
    (l_upward : K.lookup f_upward = some ⟨oc_upward, od_upward, .func (PySem.W.fnOf "upward" "upward" (defArgs s_upward) (defBody s_upward) (defScope s_upward) .none kV_upward dc_upward pm_upward an_upward cd_upward ct_upward), sl_upward⟩)
    (c_upward : PySem.W.codeIn K cd_upward "upward" = true)
    (k_upward : PySem.W.keepIn K (.ref f_upward) = true)
    {od_inward an_inward : Option Addr} {sl_inward : Array (Option Value)} {oc_inward kV_inward dc_inward pm_inward cd_inward ct_inward : Value}
    (a_inward : PySem.W.nsIn K mainGlobals "inward" = some (some (.ref f_inward)))
    (l_inward : K.lookup f_inward = some ⟨oc_inward, od_inward, .func (PySem.W.fnOf "inward" "inward" (defArgs s_inward) (defBody s_inward) (defScope s_inward) .none kV_inward dc_inward pm_inward an_inward cd_inward ct_inward), sl_inward⟩)
    (c_inward : PySem.W.codeIn K cd_inward "inward" = true)
    (k_inward : PySem.W.keepIn K (.ref f_inward) = true)
    {od_outward an_outward : Option Addr} {sl_outward : Array (Option Value)} {oc_outward kV_outward dc_outward pm_outward cd_outward ct_outward : Value}
    (a_outward : PySem.W.nsIn K mainGlobals "outward" = some (some (.ref f_outward)))
    (l_outward : K.lookup f_outward = some ⟨oc_outward, od_outward, .func (PySem.W.fnOf "outward" "outward" (defArgs s_outward) (defBody s_outward) (defScope s_outward) .none kV_outward dc_outward pm_outward an_outward cd_outward ct_outward), sl_outward⟩)
    (c_outward : PySem.W.codeIn K cd_outward "outward" = true)
    (k_outward : PySem.W.keepIn K (.ref f_outward) = true)
    {od_nearest_greater an_nearest_greater : Option Addr} {sl_nearest_greater : Array (Option Value)} {oc_nearest_greater kV_nearest_greater dc_nearest_greater pm_nearest_greater cd_nearest_greater ct_nearest_greater : Value}
    (a_nearest_greater : PySem.W.nsIn K mainGlobals "nearest_greater" = some (some (.ref f_nearest_greater)))
    (l_nearest_greater : K.lookup f_nearest_greater = some ⟨oc_nearest_greater, od_nearest_greater, .func (PySem.W.fnOf "nearest_greater" "nearest_greater" (defArgs s_nearest_greater) (defBody s_nearest_greater) (defScope s_nearest_greater) .none kV_nearest_greater dc_nearest_greater pm_nearest_greater an_nearest_greater cd_nearest_greater ct_nearest_greater), sl_nearest_greater⟩)
    (c_nearest_greater : PySem.W.codeIn K cd_nearest_greater "nearest_greater" = true)
    (k_nearest_greater : PySem.W.keepIn K (.ref f_nearest_greater) = true)
    {od_nearest_even an_nearest_even : Option Addr} {sl_nearest_even : Array (Option Value)} {oc_nearest_even kV_nearest_even dc_nearest_even pm_nearest_even cd_nearest_even ct_nearest_even : Value}
    (a_nearest_even : PySem.W.nsIn K mainGlobals "nearest_even" = some (some (.ref f_nearest_even)))
    (l_nearest_even : K.lookup f_nearest_even = some ⟨oc_nearest_even, od_nearest_even, .func (PySem.W.fnOf "nearest_even" "nearest_even" (defArgs s_nearest_even) (defBody s_nearest_even) (defScope s_nearest_even) .none kV_nearest_even dc_nearest_even pm_nearest_even an_nearest_even cd_nearest_even ct_nearest_even), sl_nearest_even⟩)
    (c_nearest_even : PySem.W.codeIn K cd_nearest_even "nearest_even" = true)
    (k_nearest_even : PySem.W.keepIn K (.ref f_nearest_even) = true)
    {od_nearest_far an_nearest_far : Option Addr} {sl_nearest_far : Array (Option Value)} {oc_nearest_far kV_nearest_far dc_nearest_far pm_nearest_far cd_nearest_far ct_nearest_far : Value}
    (a_nearest_far : PySem.W.nsIn K mainGlobals "nearest_far" = some (some (.ref f_nearest_far)))
    (l_nearest_far : K.lookup f_nearest_far = some ⟨oc_nearest_far, od_nearest_far, .func (PySem.W.fnOf "nearest_far" "nearest_far" (defArgs s_nearest_far) (defBody s_nearest_far) (defScope s_nearest_far) .none kV_nearest_far dc_nearest_far pm_nearest_far an_nearest_far cd_nearest_far ct_nearest_far), sl_nearest_far⟩)
    (c_nearest_far : PySem.W.codeIn K cd_nearest_far "nearest_far" = true)
    (k_nearest_far : PySem.W.keepIn K (.ref f_nearest_far) = true)
    {od_is_manner an_is_manner : Option Addr} {sl_is_manner : Array (Option Value)} {oc_is_manner kV_is_manner dc_is_manner pm_is_manner cd_is_manner ct_is_manner : Value}
    (a_is_manner : PySem.W.nsIn K mainGlobals "is_manner" = some (some (.ref f_is_manner)))
    (l_is_manner : K.lookup f_is_manner = some ⟨oc_is_manner, od_is_manner, .func (PySem.W.fnOf "is_manner" "is_manner" (defArgs s_is_manner) (defBody s_is_manner) (defScope s_is_manner) .none kV_is_manner dc_is_manner pm_is_manner an_is_manner cd_is_manner ct_is_manner), sl_is_manner⟩)
    (c_is_manner : PySem.W.codeIn K cd_is_manner "is_manner" = true)
    (k_is_manner : PySem.W.keepIn K (.ref f_is_manner) = true)
    {od_is_width an_is_width : Option Addr} {sl_is_width : Array (Option Value)} {oc_is_width kV_is_width dc_is_width pm_is_width cd_is_width ct_is_width : Value}
    (a_is_width : PySem.W.nsIn K mainGlobals "is_width" = some (some (.ref f_is_width)))
    (l_is_width : K.lookup f_is_width = some ⟨oc_is_width, od_is_width, .func (PySem.W.fnOf "is_width" "is_width" (defArgs s_is_width) (defBody s_is_width) (defScope s_is_width) .none kV_is_width dc_is_width pm_is_width an_is_width cd_is_width ct_is_width), sl_is_width⟩)
    (c_is_width : PySem.W.codeIn K cd_is_width "is_width" = true)
    (k_is_width : PySem.W.keepIn K (.ref f_is_width) = true)
    {od_is_point an_is_point : Option Addr} {sl_is_point : Array (Option Value)} {oc_is_point kV_is_point dc_is_point pm_is_point cd_is_point ct_is_point : Value}
    (a_is_point : PySem.W.nsIn K mainGlobals "is_point" = some (some (.ref f_is_point)))
    (l_is_point : K.lookup f_is_point = some ⟨oc_is_point, od_is_point, .func (PySem.W.fnOf "is_point" "is_point" (defArgs s_is_point) (defBody s_is_point) (defScope s_is_point) .none kV_is_point dc_is_point pm_is_point an_is_point cd_is_point ct_is_point), sl_is_point⟩)
    (c_is_point : PySem.W.codeIn K cd_is_point "is_point" = true)
    (k_is_point : PySem.W.keepIn K (.ref f_is_point) = true)
    {od_is_ends an_is_ends : Option Addr} {sl_is_ends : Array (Option Value)} {oc_is_ends kV_is_ends dc_is_ends pm_is_ends cd_is_ends ct_is_ends : Value}
    (a_is_ends : PySem.W.nsIn K mainGlobals "is_ends" = some (some (.ref f_is_ends)))
    (l_is_ends : K.lookup f_is_ends = some ⟨oc_is_ends, od_is_ends, .func (PySem.W.fnOf "is_ends" "is_ends" (defArgs s_is_ends) (defBody s_is_ends) (defScope s_is_ends) .none kV_is_ends dc_is_ends pm_is_ends an_is_ends cd_is_ends ct_is_ends), sl_is_ends⟩)
    (c_is_ends : PySem.W.codeIn K cd_is_ends "is_ends" = true)
    (k_is_ends : PySem.W.keepIn K (.ref f_is_ends) = true)
    {od__law_cell_at an__law_cell_at : Option Addr} {sl__law_cell_at : Array (Option Value)} {oc__law_cell_at kV__law_cell_at dc__law_cell_at pm__law_cell_at cd__law_cell_at ct__law_cell_at : Value}
    (a__law_cell_at : PySem.W.nsIn K mainGlobals "_law_cell_at" = some (some (.ref f__law_cell_at)))
    (l__law_cell_at : K.lookup f__law_cell_at = some ⟨oc__law_cell_at, od__law_cell_at, .func (PySem.W.fnOf "_law_cell_at" "_law_cell_at" (defArgs s__law_cell_at) (defBody s__law_cell_at) (defScope s__law_cell_at) .none kV__law_cell_at dc__law_cell_at pm__law_cell_at an__law_cell_at cd__law_cell_at ct__law_cell_at), sl__law_cell_at⟩)
    (c__law_cell_at : PySem.W.codeIn K cd__law_cell_at "_law_cell_at" = true)
    (k__law_cell_at : PySem.W.keepIn K (.ref f__law_cell_at) = true)
    {od__law_well an__law_well : Option Addr} {sl__law_well : Array (Option Value)} {oc__law_well kV__law_well dc__law_well pm__law_well cd__law_well ct__law_well : Value}
    (a__law_well : PySem.W.nsIn K mainGlobals "_law_well" = some (some (.ref f__law_well)))
    (l__law_well : K.lookup f__law_well = some ⟨oc__law_well, od__law_well, .func (PySem.W.fnOf "_law_well" "_law_well" (defArgs s__law_well) (defBody s__law_well) (defScope s__law_well) .none kV__law_well dc__law_well pm__law_well an__law_well cd__law_well ct__law_well), sl__law_well⟩)
    (c__law_well : PySem.W.codeIn K cd__law_well "_law_well" = true)
    (k__law_well : PySem.W.keepIn K (.ref f__law_well) = true)
    {od__law_draw an__law_draw : Option Addr} {sl__law_draw : Array (Option Value)} {oc__law_draw kV__law_draw dc__law_draw pm__law_draw cd__law_draw ct__law_draw : Value}
    (a__law_draw : PySem.W.nsIn K mainGlobals "_law_draw" = some (some (.ref f__law_draw)))
    (l__law_draw : K.lookup f__law_draw = some ⟨oc__law_draw, od__law_draw, .func (PySem.W.fnOf "_law_draw" "_law_draw" (defArgs s__law_draw) (defBody s__law_draw) (defScope s__law_draw) .none kV__law_draw dc__law_draw pm__law_draw an__law_draw cd__law_draw ct__law_draw), sl__law_draw⟩)
    (c__law_draw : PySem.W.codeIn K cd__law_draw "_law_draw" = true)
    (k__law_draw : PySem.W.keepIn K (.ref f__law_draw) = true)
    {od__law_bits an__law_bits : Option Addr} {sl__law_bits : Array (Option Value)} {oc__law_bits kV__law_bits dc__law_bits pm__law_bits cd__law_bits ct__law_bits : Value}
    (a__law_bits : PySem.W.nsIn K mainGlobals "_law_bits" = some (some (.ref f__law_bits)))
    (l__law_bits : K.lookup f__law_bits = some ⟨oc__law_bits, od__law_bits, .func (PySem.W.fnOf "_law_bits" "_law_bits" (defArgs s__law_bits) (defBody s__law_bits) (defScope s__law_bits) .none kV__law_bits dc__law_bits pm__law_bits an__law_bits cd__law_bits ct__law_bits), sl__law_bits⟩)
    (c__law_bits : PySem.W.codeIn K cd__law_bits "_law_bits" = true)
    (k__law_bits : PySem.W.keepIn K (.ref f__law_bits) = true)
    {od__law_refused an__law_refused : Option Addr} {sl__law_refused : Array (Option Value)} {oc__law_refused kV__law_refused dc__law_refused pm__law_refused cd__law_refused ct__law_refused : Value}
    (a__law_refused : PySem.W.nsIn K mainGlobals "_law_refused" = some (some (.ref f__law_refused)))
    (l__law_refused : K.lookup f__law_refused = some ⟨oc__law_refused, od__law_refused, .func (PySem.W.fnOf "_law_refused" "_law_refused" (defArgs s__law_refused) (defBody s__law_refused) (defScope s__law_refused) .none kV__law_refused dc__law_refused pm__law_refused an__law_refused cd__law_refused ct__law_refused), sl__law_refused⟩)
    (c__law_refused : PySem.W.codeIn K cd__law_refused "_law_refused" = true)
    (k__law_refused : PySem.W.keepIn K (.ref f__law_refused) = true)
    {od__law_spoiled an__law_spoiled : Option Addr} {sl__law_spoiled : Array (Option Value)} {oc__law_spoiled kV__law_spoiled dc__law_spoiled pm__law_spoiled cd__law_spoiled ct__law_spoiled : Value}
    (a__law_spoiled : PySem.W.nsIn K mainGlobals "_law_spoiled" = some (some (.ref f__law_spoiled)))
    (l__law_spoiled : K.lookup f__law_spoiled = some ⟨oc__law_spoiled, od__law_spoiled, .func (PySem.W.fnOf "_law_spoiled" "_law_spoiled" (defArgs s__law_spoiled) (defBody s__law_spoiled) (defScope s__law_spoiled) .none kV__law_spoiled dc__law_spoiled pm__law_spoiled an__law_spoiled cd__law_spoiled ct__law_spoiled), sl__law_spoiled⟩)
    (c__law_spoiled : PySem.W.codeIn K cd__law_spoiled "_law_spoiled" = true)
    (k__law_spoiled : PySem.W.keepIn K (.ref f__law_spoiled) = true)
    {od_law an_law cdd_law : Option Addr} {sl_law ccs_law : Array (Option Value)} {oc_law kV_law dc_law pm_law ct_law ccl_law : Value} {vs_law : Array Value}
    (a_law : PySem.W.nsIn K mainGlobals "law" = some (some (.ref f_law)))
    (l_law : K.lookup f_law = some ⟨oc_law, od_law, .func (PySem.W.fnOf "law" "law" (defArgs s_law) (defBody s_law) (defScope s_law) .none kV_law dc_law pm_law an_law (.ref cLaw) ct_law), sl_law⟩)
    (c_law : PySem.W.codeIn K (.ref cLaw) "law" = true)
    (k_law : PySem.W.keepIn K (.ref f_law) = true)
    (lc_law : K.lookup cLaw = some ⟨ccl_law, cdd_law, .fields vs_law, ccs_law⟩)
    (v11_law : vs_law[11]? = some (.ref Pt))
    (hd_law : PySem.W.codeHdIn K cLaw Pt = true)
    (nT_law : K.lookup Pt = none)
    (hT_law : h.get? Pt = some { cls := .none, data := .fields #[] })
    (aC_C : PySem.W.nsIn K mainGlobals "Form" = some (some (.ref C)))
    (pg_C : PySem.W.plainGet K C Str.empty = true)
    (hd_C : PySem.W.hasDictIn K C = true)
    (po_C : PySem.W.plainOver K C = true)
    (sa_C : PySem.W.findIn K (.ref C) "__setattr__" = some (some (.builtin "object.__setattr__")))
    (mk_C : PySem.W.makesIn K C = true)
    (kc_C : PySem.W.keepIn K (.ref C) = true)
    (n_C_width : PySem.W.findIn K (.ref C) "width" = some none)
    (n_C_point : PySem.W.findIn K (.ref C) "point" = some none)
    (n_C_manner : PySem.W.findIn K (.ref C) "manner" = some none)
    (n_C_ends : PySem.W.findIn K (.ref C) "ends" = some none)
    {od_Form_least an_Form_least : Option Addr} {sl_Form_least : Array (Option Value)} {oc_Form_least kV_Form_least dc_Form_least pm_Form_least cd_Form_least ct_Form_least : Value}
    (a_Form_least : PySem.W.findIn K (.ref C) "least" = some (some (.ref f_Form_least)))
    (i_Form_least : PySem.W.isFn K (.ref f_Form_least) = true)
    (l_Form_least : K.lookup f_Form_least = some ⟨oc_Form_least, od_Form_least, .func (PySem.W.fnOf "least" "Form.least" (defArgs s_Form_least) (defBody s_Form_least) (defScope s_Form_least) .none kV_Form_least dc_Form_least pm_Form_least an_Form_least cd_Form_least ct_Form_least), sl_Form_least⟩)
    (c_Form_least : PySem.W.codeIn K cd_Form_least "Form.least" = true)
    (k_Form_least : PySem.W.keepIn K (.ref f_Form_least) = true)
    {od_Form_greatest an_Form_greatest : Option Addr} {sl_Form_greatest : Array (Option Value)} {oc_Form_greatest kV_Form_greatest dc_Form_greatest pm_Form_greatest cd_Form_greatest ct_Form_greatest : Value}
    (a_Form_greatest : PySem.W.findIn K (.ref C) "greatest" = some (some (.ref f_Form_greatest)))
    (i_Form_greatest : PySem.W.isFn K (.ref f_Form_greatest) = true)
    (l_Form_greatest : K.lookup f_Form_greatest = some ⟨oc_Form_greatest, od_Form_greatest, .func (PySem.W.fnOf "greatest" "Form.greatest" (defArgs s_Form_greatest) (defBody s_Form_greatest) (defScope s_Form_greatest) .none kV_Form_greatest dc_Form_greatest pm_Form_greatest an_Form_greatest cd_Form_greatest ct_Form_greatest), sl_Form_greatest⟩)
    (c_Form_greatest : PySem.W.codeIn K cd_Form_greatest "Form.greatest" = true)
    (k_Form_greatest : PySem.W.keepIn K (.ref f_Form_greatest) = true)
    {od_Form_has an_Form_has : Option Addr} {sl_Form_has : Array (Option Value)} {oc_Form_has kV_Form_has dc_Form_has pm_Form_has cd_Form_has ct_Form_has : Value}
    (a_Form_has : PySem.W.findIn K (.ref C) "has" = some (some (.ref f_Form_has)))
    (i_Form_has : PySem.W.isFn K (.ref f_Form_has) = true)
    (l_Form_has : K.lookup f_Form_has = some ⟨oc_Form_has, od_Form_has, .func (PySem.W.fnOf "has" "Form.has" (defArgs s_Form_has) (defBody s_Form_has) (defScope s_Form_has) .none kV_Form_has dc_Form_has pm_Form_has an_Form_has cd_Form_has ct_Form_has), sl_Form_has⟩)
    (c_Form_has : PySem.W.codeIn K cd_Form_has "Form.has" = true)
    (k_Form_has : PySem.W.keepIn K (.ref f_Form_has) = true)
    {od_Form_bits an_Form_bits : Option Addr} {sl_Form_bits : Array (Option Value)} {oc_Form_bits kV_Form_bits dc_Form_bits pm_Form_bits cd_Form_bits ct_Form_bits : Value}
    (a_Form_bits : PySem.W.findIn K (.ref C) "bits" = some (some (.ref f_Form_bits)))
    (i_Form_bits : PySem.W.isFn K (.ref f_Form_bits) = true)
    (l_Form_bits : K.lookup f_Form_bits = some ⟨oc_Form_bits, od_Form_bits, .func (PySem.W.fnOf "bits" "Form.bits" (defArgs s_Form_bits) (defBody s_Form_bits) (defScope s_Form_bits) .none kV_Form_bits dc_Form_bits pm_Form_bits an_Form_bits cd_Form_bits ct_Form_bits), sl_Form_bits⟩)
    (c_Form_bits : PySem.W.codeIn K cd_Form_bits "Form.bits" = true)
    (k_Form_bits : PySem.W.keepIn K (.ref f_Form_bits) = true)
    {od_Form_is_bits an_Form_is_bits : Option Addr} {sl_Form_is_bits : Array (Option Value)} {oc_Form_is_bits kV_Form_is_bits dc_Form_is_bits pm_Form_is_bits cd_Form_is_bits ct_Form_is_bits : Value}
    (a_Form_is_bits : PySem.W.findIn K (.ref C) "is_bits" = some (some (.ref f_Form_is_bits)))
    (i_Form_is_bits : PySem.W.isFn K (.ref f_Form_is_bits) = true)
    (l_Form_is_bits : K.lookup f_Form_is_bits = some ⟨oc_Form_is_bits, od_Form_is_bits, .func (PySem.W.fnOf "is_bits" "Form.is_bits" (defArgs s_Form_is_bits) (defBody s_Form_is_bits) (defScope s_Form_is_bits) .none kV_Form_is_bits dc_Form_is_bits pm_Form_is_bits an_Form_is_bits cd_Form_is_bits ct_Form_is_bits), sl_Form_is_bits⟩)
    (c_Form_is_bits : PySem.W.codeIn K cd_Form_is_bits "Form.is_bits" = true)
    (k_Form_is_bits : PySem.W.keepIn K (.ref f_Form_is_bits) = true)
    {od_Form_word_of an_Form_word_of : Option Addr} {sl_Form_word_of : Array (Option Value)} {oc_Form_word_of kV_Form_word_of dc_Form_word_of pm_Form_word_of cd_Form_word_of ct_Form_word_of : Value}
    (a_Form_word_of : PySem.W.findIn K (.ref C) "word_of" = some (some (.ref f_Form_word_of)))
    (i_Form_word_of : PySem.W.isFn K (.ref f_Form_word_of) = true)
    (l_Form_word_of : K.lookup f_Form_word_of = some ⟨oc_Form_word_of, od_Form_word_of, .func (PySem.W.fnOf "word_of" "Form.word_of" (defArgs s_Form_word_of) (defBody s_Form_word_of) (defScope s_Form_word_of) .none kV_Form_word_of dc_Form_word_of pm_Form_word_of an_Form_word_of cd_Form_word_of ct_Form_word_of), sl_Form_word_of⟩)
    (c_Form_word_of : PySem.W.codeIn K cd_Form_word_of "Form.word_of" = true)
    (k_Form_word_of : PySem.W.keepIn K (.ref f_Form_word_of) = true)
    {od_Form___init__ an_Form___init__ : Option Addr} {sl_Form___init__ : Array (Option Value)} {oc_Form___init__ kV_Form___init__ dc_Form___init__ pm_Form___init__ cd_Form___init__ ct_Form___init__ : Value}
    {to_Form___init__ : Value} {td_Form___init__ : Option Addr} {tn_Form___init__ : Nat} {ts_Form___init__ : Array (Option Value)} {tk_Form___init___1 : Tok} {tk_Form___init___2 : Tok} {tk_Form___init___3 : Tok}
    (a_Form___init__ : PySem.W.findIn K (.ref C) "__init__" = some (some (.ref f_Form___init__)))
    (i_Form___init__ : PySem.W.isFn K (.ref f_Form___init__) = true)
    (l_Form___init__ : K.lookup f_Form___init__ = some ⟨oc_Form___init__, od_Form___init__, .func (PySem.W.fnOf "__init__" "Form.__init__" (defArgs s_Form___init__) (defBody s_Form___init__) (defScope s_Form___init__) (.ref T_Form___init__) kV_Form___init__ dc_Form___init__ pm_Form___init__ an_Form___init__ cd_Form___init__ ct_Form___init__), sl_Form___init__⟩)
    (c_Form___init__ : PySem.W.codeIn K cd_Form___init__ "Form.__init__" = true)
    (k_Form___init__ : PySem.W.keepIn K (.ref f_Form___init__) = true)
    (t_Form___init__ : K.lookup T_Form___init__ = some ⟨to_Form___init__, td_Form___init__, .seq [Value.none, Value.int 0 tk_Form___init___1, Value.str "half" tk_Form___init___2, Value.str "wrap" tk_Form___init___3].toArray tn_Form___init__, ts_Form___init__⟩)
    {tk_LEAST_WIDTH : Tok}
    (g_LEAST_WIDTH : PySem.W.nsIn K mainGlobals "LEAST_WIDTH" = some (some (.int 2 tk_LEAST_WIDTH)))
    {tk_GREATEST_WIDTH : Tok}
    (g_GREATEST_WIDTH : PySem.W.nsIn K mainGlobals "GREATEST_WIDTH" = some (some (.int 64 tk_GREATEST_WIDTH)))
    {tk_GREATEST_POINT : Tok}
    (g_GREATEST_POINT : PySem.W.nsIn K mainGlobals "GREATEST_POINT" = some (some (.int 64 tk_GREATEST_POINT)))
    {tt_ENDS : Option Addr} {tn_ENDS : Nat} {ts_ENDS : Array (Option Value)} {tk_ENDS_0 : Tok} {tk_ENDS_1 : Tok}
    (g_ENDS : PySem.W.nsIn K mainGlobals "ENDS" = some (some (.ref A_ENDS)))
    (t_ENDS : K.lookup A_ENDS = some ⟨.type "tuple", tt_ENDS, .seq [Value.str "wrap" tk_ENDS_0, Value.str "stop" tk_ENDS_1].toArray tn_ENDS, ts_ENDS⟩)
    {es_MANNERS : Array DictEntry} {dn_MANNERS : Nat}
    (g_MANNERS : PySem.W.nsIn K mainGlobals "MANNERS" = some (some (.ref A_MANNERS)))
    (t_MANNERS : K.lookup A_MANNERS = some ⟨.type "dict", none, .dict es_MANNERS dn_MANNERS, #[]⟩)
    (y_MANNERS : PySem.W.KeysLit w.params es_MANNERS.toList)
    (w_MANNERS : (A_MANNERS == sysModules) = false)
    (d_MANNERS_down : PySem.W.nsIn K A_MANNERS "down" = some (some (.ref f_downward)))
    (d_MANNERS_up : PySem.W.nsIn K A_MANNERS "up" = some (some (.ref f_upward)))
    (d_MANNERS_in : PySem.W.nsIn K A_MANNERS "in" = some (some (.ref f_inward)))
    (d_MANNERS_out : PySem.W.nsIn K A_MANNERS "out" = some (some (.ref f_outward)))
    (d_MANNERS_half : PySem.W.nsIn K A_MANNERS "half" = some (some (.ref f_nearest_greater)))
    (d_MANNERS_even : PySem.W.nsIn K A_MANNERS "even" = some (some (.ref f_nearest_even)))
    (d_MANNERS_far : PySem.W.nsIn K A_MANNERS "far" = some (some (.ref f_nearest_far)))
    (aC_CE : PySem.W.nsIn K mainGlobals "EchoError" = some (some (.ref CE)))
    (aC_CB : PySem.W.nsIn K mainGlobals "BadForm" = some (some (.ref CB)))
    (aC_CN : PySem.W.nsIn K mainGlobals "NoFraction" = some (some (.ref CN)))
    (aC_CU : PySem.W.nsIn K mainGlobals "Unfit" = some (some (.ref CU)))
    (ei_CU : PySem.W.excInitIn K CU PySem.ErrX.bmA "ArithmeticError.__new__" = true)
    (eo_CU : PySem.W.excOver K CU PySem.ErrX.bmA = true)
    (sa_CU : PySem.W.findIn K (.ref CU) "__setattr__" = some (some (.builtin "object.__setattr__")))
    (ga_CU : PySem.W.findIn K (.ref CU) "__getattribute__" = some (some (.builtin "BaseException.__getattribute__")))
    (gg_CU : PySem.W.findIn K (.ref CU) "__getattr__" = some none)
    (kC_CU : PySem.W.keepIn K (.ref CU) = true)
    (ex_CU : PySem.W.subIn K (.ref CU) (.type "BaseException") = some true)
    (ty_CU : PySem.W.typeIn K (.ref CU) = some (.type "type"))
    (hd_CU : PySem.W.hasDictIn K CU = true)
    (ha_CU : PySem.W.findIn K (.ref CU) "__class__" = some (some (.builtin "object.__class__")))
    (hn_CU : PySem.W.specialIn K (.builtin "object.__class__") "__get__" = some (some (.builtin "getset_descriptor.__get__")))
    (ht_CU : PySem.W.takesIn K (.builtin "object.__class__") = some true)
    (hm_CU : PySem.W.mroIn K CU (.type "object") = some true)
    (iC_CU : PySem.W.findIn K (.ref CU) "__init__" = some (some (.ref fI_CU)))
    (tC_CU : PySem.W.typeIn K (.ref fI_CU) = some (.type "function"))
    {od_CU an_CU cdd_CU cld_CU : Option Addr} {sl_CU ccs_CU csl_CU : Array (Option Value)} {oc_CU kV_CU dc_CU pm_CU ct_CU ccl_CU cl_CU : Value} {vs_CU : Array Value} {file_CU : Str} {tf_CU : Tok}
    (l_CU : K.lookup fI_CU = some ⟨oc_CU, od_CU, .func (PySem.W.ksFn "__init__" "Unfit.__init__" (defArgs s_Unfit___init__) (defBody s_Unfit___init__) (defScope s_Unfit___init__) (.ref T_CU) kV_CU dc_CU pm_CU an_CU (.ref cda_CU) ct_CU cc_CU), sl_CU⟩)
    (cd_CU : PySem.W.codeIn K (.ref cda_CU) "Unfit.__init__" = true)
    (lc_CU : K.lookup cda_CU = some ⟨ccl_CU, cdd_CU, .fields vs_CU, ccs_CU⟩)
    (v2_CU : vs_CU[2]? = some (.str file_CU tf_CU))
    (fl_CU : ((l.prog.main.file : Str) == file_CU) = true)
    (ce_CU : K.lookup cc_CU = some ⟨cl_CU, cld_CU, .cell (some (.ref CU)), csl_CU⟩)
    (nf_CU : PySem.W.findIn K (.ref CU) "at" = some none)
    (su_CU : PySem.W.ks_superIn K CU CU "__init__" = some (some (.builtin "ArithmeticError.__init__")))
    (sA_CU : PySem.W.subIn K (.ref CU) (.type "ArithmeticError") = some true)
    (sf_CU : PySem.W.mroIn K CU (.ref CU) = some true)
    (th_CU : PySem.W.nsIn K cStatics "thirdparty.any" = some none)
    (ms_CU : PySem.W.nsIn K mainGlobals "super" = some none)
    (tp_CU : (l.prog.main.scope.names.lookup ("super" : Str)).isSome = false)
    {to_CU : Value} {td_CU : Option Addr} {its_CU : Array Value} {tn_CU : Nat} {ts_CU : Array (Option Value)}
    (t_CU : K.lookup T_CU = some ⟨to_CU, td_CU, .seq its_CU tn_CU, ts_CU⟩)
    (z_CU : its_CU.size = 1)
    (xm_CU : PySem.W.exmOne K (.ref CU) (.ref CE) = some true)
    (aC_CT : PySem.W.nsIn K mainGlobals "NoText" = some (some (.ref CT)))
    (ei_CT : PySem.W.excInitIn K CT PySem.ErrX.bmA "ArithmeticError.__new__" = true)
    (eo_CT : PySem.W.excOver K CT PySem.ErrX.bmA = true)
    (sa_CT : PySem.W.findIn K (.ref CT) "__setattr__" = some (some (.builtin "object.__setattr__")))
    (ga_CT : PySem.W.findIn K (.ref CT) "__getattribute__" = some (some (.builtin "BaseException.__getattribute__")))
    (gg_CT : PySem.W.findIn K (.ref CT) "__getattr__" = some none)
    (kC_CT : PySem.W.keepIn K (.ref CT) = true)
    (ex_CT : PySem.W.subIn K (.ref CT) (.type "BaseException") = some true)
    (ty_CT : PySem.W.typeIn K (.ref CT) = some (.type "type"))
    (hd_CT : PySem.W.hasDictIn K CT = true)
    (ha_CT : PySem.W.findIn K (.ref CT) "__class__" = some (some (.builtin "object.__class__")))
    (hn_CT : PySem.W.specialIn K (.builtin "object.__class__") "__get__" = some (some (.builtin "getset_descriptor.__get__")))
    (ht_CT : PySem.W.takesIn K (.builtin "object.__class__") = some true)
    (hm_CT : PySem.W.mroIn K CT (.type "object") = some true)
    (iC_CT : PySem.W.findIn K (.ref CT) "__init__" = some (some (.ref fI_CT)))
    (tC_CT : PySem.W.typeIn K (.ref fI_CT) = some (.type "function"))
    {od_CT an_CT cdd_CT cld_CT : Option Addr} {sl_CT ccs_CT csl_CT : Array (Option Value)} {oc_CT kV_CT dc_CT pm_CT ct_CT ccl_CT cl_CT : Value} {vs_CT : Array Value} {file_CT : Str} {tf_CT : Tok}
    (l_CT : K.lookup fI_CT = some ⟨oc_CT, od_CT, .func (PySem.W.ksFn "__init__" "NoText.__init__" (defArgs s_NoText___init__) (defBody s_NoText___init__) (defScope s_NoText___init__) (.ref T_CT) kV_CT dc_CT pm_CT an_CT (.ref cda_CT) ct_CT cc_CT), sl_CT⟩)
    (cd_CT : PySem.W.codeIn K (.ref cda_CT) "NoText.__init__" = true)
    (lc_CT : K.lookup cda_CT = some ⟨ccl_CT, cdd_CT, .fields vs_CT, ccs_CT⟩)
    (v2_CT : vs_CT[2]? = some (.str file_CT tf_CT))
    (fl_CT : ((l.prog.main.file : Str) == file_CT) = true)
    (ce_CT : K.lookup cc_CT = some ⟨cl_CT, cld_CT, .cell (some (.ref CT)), csl_CT⟩)
    (nf_CT : PySem.W.findIn K (.ref CT) "line" = some none)
    (su_CT : PySem.W.ks_superIn K CT CT "__init__" = some (some (.builtin "ArithmeticError.__init__")))
    (sA_CT : PySem.W.subIn K (.ref CT) (.type "ArithmeticError") = some true)
    (sf_CT : PySem.W.mroIn K CT (.ref CT) = some true)
    (th_CT : PySem.W.nsIn K cStatics "thirdparty.any" = some none)
    (ms_CT : PySem.W.nsIn K mainGlobals "super" = some none)
    (tp_CT : (l.prog.main.scope.names.lookup ("super" : Str)).isSome = false)
    {to_CT : Value} {td_CT : Option Addr} {its_CT : Array Value} {tn_CT : Nat} {ts_CT : Array (Option Value)}
    (t_CT : K.lookup T_CT = some ⟨to_CT, td_CT, .seq its_CT tn_CT, ts_CT⟩)
    (z_CT : its_CT.size = 1)
    (xm_CT : PySem.W.exmOne K (.ref CT) (.ref CE) = some true)
    (ki_CU_CU : PySem.W.kitOne K (.ref CU) (.ref CU) = some true)
    (ki_CU_CT : PySem.W.kitOne K (.ref CU) (.ref CT) = some false)
    (ki_CU_CB : PySem.W.kitOne K (.ref CU) (.ref CB) = some false)
    (ki_CU_CN : PySem.W.kitOne K (.ref CU) (.ref CN) = some false)
    (ki_CT_CU : PySem.W.kitOne K (.ref CT) (.ref CU) = some false)
    (ki_CT_CT : PySem.W.kitOne K (.ref CT) (.ref CT) = some true)
    (ki_CT_CB : PySem.W.kitOne K (.ref CT) (.ref CB) = some false)
    (ki_CT_CN : PySem.W.kitOne K (.ref CT) (.ref CN) = some false)
    (z_isinstance : PySem.W.nsIn K mainGlobals "isinstance" = some none)
    (z_int : PySem.W.nsIn K mainGlobals "int" = some none)
    (z_bool : PySem.W.nsIn K mainGlobals "bool" = some none)
    (z_str : PySem.W.nsIn K mainGlobals "str" = some none)
    (z_abs : PySem.W.nsIn K mainGlobals "abs" = some none)
    (z_len : PySem.W.nsIn K mainGlobals "len" = some none)
    (z_all : PySem.W.nsIn K mainGlobals "all" = some none)
    (z_range : PySem.W.nsIn K mainGlobals "range" = some none) :
    LamX.LawAtS l w K CX0 8 63 "_law_script" mg fa h := by
  have F_is_whole := fun_mk (st := s_is_whole) l_is_whole c_is_whole k_is_whole
  have b_is_whole := F_is_whole.binds (ps := ["thing"]) fun _ _ _ _ _ _ us hl => match us, hl with | [_], _ => rfl
  have F_downward := fun_mk (st := s_downward) l_downward c_downward k_downward
  have b_downward := F_downward.binds (ps := ["top", "bottom"]) fun _ _ _ _ _ _ us hl => match us, hl with | [_, _], _ => rfl
  have F_upward := fun_mk (st := s_upward) l_upward c_upward k_upward
  have b_upward := F_upward.binds (ps := ["top", "bottom"]) fun _ _ _ _ _ _ us hl => match us, hl with | [_, _], _ => rfl
  have F_inward := fun_mk (st := s_inward) l_inward c_inward k_inward
  have b_inward := F_inward.binds (ps := ["top", "bottom"]) fun _ _ _ _ _ _ us hl => match us, hl with | [_, _], _ => rfl
  have F_outward := fun_mk (st := s_outward) l_outward c_outward k_outward
  have b_outward := F_outward.binds (ps := ["top", "bottom"]) fun _ _ _ _ _ _ us hl => match us, hl with | [_, _], _ => rfl
  have F_nearest_greater := fun_mk (st := s_nearest_greater) l_nearest_greater c_nearest_greater k_nearest_greater
  have b_nearest_greater := F_nearest_greater.binds (ps := ["top", "bottom"]) fun _ _ _ _ _ _ us hl => match us, hl with | [_, _], _ => rfl
  have F_nearest_even := fun_mk (st := s_nearest_even) l_nearest_even c_nearest_even k_nearest_even
  have b_nearest_even := F_nearest_even.binds (ps := ["top", "bottom"]) fun _ _ _ _ _ _ us hl => match us, hl with | [_, _], _ => rfl
  have F_nearest_far := fun_mk (st := s_nearest_far) l_nearest_far c_nearest_far k_nearest_far
  have b_nearest_far := F_nearest_far.binds (ps := ["top", "bottom"]) fun _ _ _ _ _ _ us hl => match us, hl with | [_, _], _ => rfl
  have F_is_manner := fun_mk (st := s_is_manner) l_is_manner c_is_manner k_is_manner
  have b_is_manner := F_is_manner.binds (ps := ["thing"]) fun _ _ _ _ _ _ us hl => match us, hl with | [_], _ => rfl
  have F_is_width := fun_mk (st := s_is_width) l_is_width c_is_width k_is_width
  have b_is_width := F_is_width.binds (ps := ["thing"]) fun _ _ _ _ _ _ us hl => match us, hl with | [_], _ => rfl
  have F_is_point := fun_mk (st := s_is_point) l_is_point c_is_point k_is_point
  have b_is_point := F_is_point.binds (ps := ["thing"]) fun _ _ _ _ _ _ us hl => match us, hl with | [_], _ => rfl
  have F_is_ends := fun_mk (st := s_is_ends) l_is_ends c_is_ends k_is_ends
  have b_is_ends := F_is_ends.binds (ps := ["thing"]) fun _ _ _ _ _ _ us hl => match us, hl with | [_], _ => rfl
  have F__law_cell_at := fun_mk (st := s__law_cell_at) l__law_cell_at c__law_cell_at k__law_cell_at
  have b__law_cell_at := F__law_cell_at.binds (ps := ["_law_script", "_law_k"]) fun _ _ _ _ _ _ us hl => match us, hl with | [_, _], _ => rfl
  have F__law_well := fun_mk (st := s__law_well) l__law_well c__law_well k__law_well
  have b__law_well := F__law_well.binds (ps := ["_law_cell"]) fun _ _ _ _ _ _ us hl => match us, hl with | [_], _ => rfl
  have F__law_draw := fun_mk (st := s__law_draw) l__law_draw c__law_draw k__law_draw
  have b__law_draw := F__law_draw.binds (ps := ["_law_well_here", "_law_many"]) fun _ _ _ _ _ _ us hl => match us, hl with | [_, _], _ => rfl
  have F__law_bits := fun_mk (st := s__law_bits) l__law_bits c__law_bits k__law_bits
  have b__law_bits := F__law_bits.binds (ps := ["_law_entry", "_law_width"]) fun _ _ _ _ _ _ us hl => match us, hl with | [_, _], _ => rfl
  have F__law_refused := fun_mk (st := s__law_refused) l__law_refused c__law_refused k__law_refused
  have b__law_refused := F__law_refused.binds (ps := ["_law_deed"]) fun _ _ _ _ _ _ us hl => match us, hl with | [_], _ => rfl
  have F__law_spoiled := fun_mk (st := s__law_spoiled) l__law_spoiled c__law_spoiled k__law_spoiled
  have b__law_spoiled := F__law_spoiled.binds (ps := ["_law_text", "_law_well_here"]) fun _ _ _ _ _ _ us hl => match us, hl with | [_, _], _ => rfl
  have F_law : FunC K "law" s_law f_law (PySem.W.fnOf "law" "law" (defArgs s_law) (defBody s_law) (defScope s_law) .none kV_law dc_law pm_law an_law (.ref cLaw) ct_law) cLaw := ⟨_, _, _, _, _, _, _, _, rfl, l_law, c_law⟩
  have F_Form_least := fun_mk (st := s_Form_least) l_Form_least c_Form_least k_Form_least
  have b_Form_least := F_Form_least.binds (ps := ["self"]) fun _ _ _ _ _ _ us hl => match us, hl with | [_], _ => rfl
  have F_Form_greatest := fun_mk (st := s_Form_greatest) l_Form_greatest c_Form_greatest k_Form_greatest
  have b_Form_greatest := F_Form_greatest.binds (ps := ["self"]) fun _ _ _ _ _ _ us hl => match us, hl with | [_], _ => rfl
  have F_Form_has := fun_mk (st := s_Form_has) l_Form_has c_Form_has k_Form_has
  have b_Form_has := F_Form_has.binds (ps := ["self", "thing"]) fun _ _ _ _ _ _ us hl => match us, hl with | [_, _], _ => rfl
  have F_Form_bits := fun_mk (st := s_Form_bits) l_Form_bits c_Form_bits k_Form_bits
  have b_Form_bits := F_Form_bits.binds (ps := ["self", "word"]) fun _ _ _ _ _ _ us hl => match us, hl with | [_, _], _ => rfl
  have F_Form_is_bits := fun_mk (st := s_Form_is_bits) l_Form_is_bits c_Form_is_bits k_Form_is_bits
  have b_Form_is_bits := F_Form_is_bits.binds (ps := ["self", "thing"]) fun _ _ _ _ _ _ us hl => match us, hl with | [_, _], _ => rfl
  have F_Form_word_of := fun_mk (st := s_Form_word_of) l_Form_word_of c_Form_word_of k_Form_word_of
  have b_Form_word_of := F_Form_word_of.binds (ps := ["self", "bits"]) fun _ _ _ _ _ _ us hl => match us, hl with | [_, _], _ => rfl
  have F_Form___init__ : FunD K "__init__" "Form.__init__" (defArgs s_Form___init__) (defBody s_Form___init__) (defScope s_Form___init__) [V.non, V.int 0, V.str "half", V.str "wrap"] [] f_Form___init__ _ := ⟨⟨_, _, _, _, _, _, _, _, _, _, rfl, l_Form___init__, c_Form___init__, .inr ⟨by simp, T_Form___init__, _, [Value.none, Value.int 0 tk_Form___init___1, Value.str "half" tk_Form___init___2, Value.str "wrap" tk_Form___init___3], _, rfl, t_Form___init__, rfl, (.cons rfl (.cons ⟨_, rfl⟩ (.cons ⟨_, rfl⟩ (.cons ⟨_, rfl⟩ .nil))))⟩, .inl rfl⟩, k_Form___init__⟩
  obtain ⟨ds_Form4, dv_Form4, b_Form4⟩ := F_Form___init__.binds1 (ps := ["self", "width", "point", "manner", "ends"]) 5 4 (by simp) rfl fun _ _ _ _ _ _ _ us its h1 h2 => match us, its, h1, h2 with | [_, _, _, _, _], [_, _, _, _], _, _ => ⟨_, rfl, rfl⟩
  cases dv_Form4
  have kb_bits := Fun.kbn (n := 1) (ks := ["word"]) (ps := ["self", "word"]) F_Form_bits (g := fun us ws => us ++ ws) (gV := fun vs zs => vs ++ zs) (fun r s => Vals.append r s) fun _ _ _ _ _ _ us ws h1 h2 => match us, ws, h1, h2 with | [_], [_], _, _ => rfl
  have kb_word_of := Fun.kbn (n := 1) (ks := ["bits"]) (ps := ["self", "bits"]) F_Form_word_of (g := fun us ws => us ++ ws) (gV := fun vs zs => vs ++ zs) (fun r s => Vals.append r s) fun _ _ _ _ _ _ us ws h1 h2 => match us, ws, h1, h2 with | [_], [_], _, _ => rfl
  obtain ⟨itsF, kbf⟩ := FunD.kbindsD (ps := ["self", "width", "point", "manner", "ends"]) F_Form___init__ 3 ["ends"] (fun {α} (us its ws : List α) => us ++ (its.drop 2).take 1 ++ ws) (by simp) (fun r1 r2 r3 => (r1.append (vals_take 1 (vals_drop 2 r2))).append r3) fun _ _ _ _ _ _ _ us its ws h1 h2 h3 => match us, its, ws, h1, h2, h3 with | [_, _, _], [_, _, _, _], [_], _, _, _ => ⟨_, rfl, rfl⟩
  have T_ENDS : ∀ H, SqT K H A_ENDS [V.str "wrap", V.str "stop"] := fun H => .inr ⟨_, _, _, t_ENDS, rfl, rfl, (by show 2 ≤ sizeLine; decide), (.cons ⟨_, rfl⟩ (.cons ⟨_, rfl⟩ .nil))⟩
  have EC_CU : PySem.ErrX.ErrC K mg "Unfit" CU := ⟨PySem.W.mg_of X G aC_CU, ei_CU, eo_CU, sa_CU, ga_CU, gg_CU, kC_CU, ex_CU, ty_CU, hd_CU⟩
  have IC_CU : PySem.ErrX.IniC l.prog K mg CU fI_CU cc_CU "Unfit.__init__" "at" s_Unfit___init__ (.ref T_CU) := ⟨iC_CU, tC_CU, ⟨_, _, _, _, _, _, _, _, _, l_CU, cd_CU, _, _, _, _, _, _, lc_CU, v2_CU, fl_CU⟩, ⟨_, _, _, ce_CU⟩, nf_CU, su_CU, sA_CU, sf_CU, th_CU, PySem.W.mg_none_of X G ms_CU, tp_CU⟩
  have XC_CU : ExcC K CU := ⟨ga_CU, gg_CU, ex_CU, hd_CU, ha_CU, hn_CU, ht_CU, hm_CU⟩
  have EC_CT : PySem.ErrX.ErrC K mg "NoText" CT := ⟨PySem.W.mg_of X G aC_CT, ei_CT, eo_CT, sa_CT, ga_CT, gg_CT, kC_CT, ex_CT, ty_CT, hd_CT⟩
  have IC_CT : PySem.ErrX.IniC l.prog K mg CT fI_CT cc_CT "NoText.__init__" "line" s_NoText___init__ (.ref T_CT) := ⟨iC_CT, tC_CT, ⟨_, _, _, _, _, _, _, _, _, l_CT, cd_CT, _, _, _, _, _, _, lc_CT, v2_CT, fl_CT⟩, ⟨_, _, _, ce_CT⟩, nf_CT, su_CT, sA_CT, sf_CT, th_CT, PySem.W.mg_none_of X G ms_CT, tp_CT⟩
  have XC_CT : ExcC K CT := ⟨ga_CT, gg_CT, ex_CT, hd_CT, ha_CT, hn_CT, ht_CT, hm_CT⟩
  have z : Zs mg := ⟨PySem.W.mg_none_of X G z_isinstance, PySem.W.mg_none_of X G z_int, PySem.W.mg_none_of X G z_bool, PySem.W.mg_none_of X G z_str, PySem.W.mg_none_of X G z_abs, PySem.W.mg_none_of X G z_len, PySem.W.mg_none_of X G z_all, PySem.W.mg_none_of X G z_range⟩
  have e := hfa.symm.trans (PySem.W.mg_of X G a_law)
  cases e
  have one : ∀ {p : Addr × Addr}, p ∈ [(cLaw, Pt)] → p = (cLaw, Pt) := fun h => List.mem_singleton.mp h
  refine ⟨PySem.W.fnOf "law" "law" (defArgs s_law) (defBody s_law) (defScope s_law) .none kV_law dc_law pm_law an_law (.ref cLaw) ct_law, [(cLaw, Pt)], spLaw K Pt, fun p hp => by rw [one hp]; exact hT_law, fun p hp => by rw [one hp]; exact nT_law, fun p hp => by rw [one hp]; exact PySem.W.codeHd_of_K X hd_law, fun s v => .of_eq rfl, fun H a ns hl _ hH hS => ⟨a, ns, rfl, hS, hl, hH _ List.mem_cons_self, fun _ => rfl⟩, fun base _ _ TBs => ?_⟩
  have TB := TBs _ List.mem_cons_self
  have c_is_whole : Cal l.prog w K mg base 1 "is_whole" ["thing"] _ := ⟨f_is_whole, _, PySem.W.mg_of X G a_is_whole, k_is_whole, b_is_whole, ok_is_whole (k := 0) F_is_whole z⟩
  have c_downward : Cal l.prog w K mg base 1 "downward" ["top", "bottom"] _ := ⟨f_downward, _, PySem.W.mg_of X G a_downward, k_downward, b_downward, ok_downward (k := 0) F_downward⟩
  have c_upward : Cal l.prog w K mg base 1 "upward" ["top", "bottom"] _ := ⟨f_upward, _, PySem.W.mg_of X G a_upward, k_upward, b_upward, ok_upward (k := 0) F_upward⟩
  have c_nearest_greater : Cal l.prog w K mg base 1 "nearest_greater" ["top", "bottom"] _ := ⟨f_nearest_greater, _, PySem.W.mg_of X G a_nearest_greater, k_nearest_greater, b_nearest_greater, ok_nearest_greater (k := 0) F_nearest_greater⟩
  have MM : Mans l.prog w K mg base A_MANNERS es_MANNERS dn_MANNERS := ⟨PySem.W.mg_of X G g_MANNERS, ⟨t_MANNERS, y_MANNERS, w_MANNERS⟩, fun m => match m with
    | .down => ⟨f_downward, _, d_MANNERS_down, k_downward, b_downward, ok_downward (k := 1) F_downward⟩
    | .up => ⟨f_upward, _, d_MANNERS_up, k_upward, b_upward, ok_upward (k := 1) F_upward⟩
    | .inn => ⟨f_inward, _, d_MANNERS_in, k_inward, b_inward, ok_inward F_inward c_downward c_upward⟩
    | .out => ⟨f_outward, _, d_MANNERS_out, k_outward, b_outward, ok_outward F_outward c_downward c_upward⟩
    | .half => ⟨f_nearest_greater, _, d_MANNERS_half, k_nearest_greater, b_nearest_greater, ok_nearest_greater (k := 1) F_nearest_greater⟩
    | .even => ⟨f_nearest_even, _, d_MANNERS_even, k_nearest_even, b_nearest_even, ok_nearest_even F_nearest_even c_nearest_greater⟩
    | .far => ⟨f_nearest_far, _, d_MANNERS_far, k_nearest_far, b_nearest_far, ok_nearest_far F_nearest_far c_nearest_greater⟩⟩
  have c_is_manner : Cal l.prog w K mg base 1 "is_manner" ["thing"] _ := ⟨f_is_manner, _, PySem.W.mg_of X G a_is_manner, k_is_manner, b_is_manner, ok_is_manner (k := 0) MM F_is_manner z⟩
  have Z : FCst K mg A_ENDS := ⟨⟨_, PySem.W.mg_of X G g_LEAST_WIDTH⟩, ⟨_, PySem.W.mg_of X G g_GREATEST_WIDTH⟩, ⟨_, PySem.W.mg_of X G g_GREATEST_POINT⟩, PySem.W.mg_of X G g_ENDS, T_ENDS⟩
  have c_is_width : Cal l.prog w K mg base 2 "is_width" ["thing"] _ := ⟨f_is_width, _, PySem.W.mg_of X G a_is_width, k_is_width, b_is_width, ok_is_width Z F_is_width c_is_whole⟩
  have c_is_point : Cal l.prog w K mg base 2 "is_point" ["thing"] _ := ⟨f_is_point, _, PySem.W.mg_of X G a_is_point, k_is_point, b_is_point, ok_is_point Z F_is_point z c_is_whole⟩
  have c_is_ends : Cal l.prog w K mg base 1 "is_ends" ["thing"] _ := ⟨f_is_ends, _, PySem.W.mg_of X G a_is_ends, k_is_ends, b_is_ends, ok_is_ends (k := 0) Z F_is_ends z⟩
  have T : FTxt K mg C := ⟨⟨pg_C, hd_C, po_C, sa_C⟩, n_C_width, n_C_point, n_C_manner, n_C_ends⟩
  have okF := ok_Form___init__ (base := base) T F_Form___init__ c_is_width c_is_point c_is_manner c_is_ends
  have c_Form : CalC l.prog w K mg base 3 "Form" C ["self", "width", "point", "manner", "ends"] [] _ := ⟨f_Form___init__, _, _, ⟨mk_C, a_Form___init__, i_Form___init__, kc_C⟩, PySem.W.mg_of X G aC_C, .nil, b_Form4, okF⟩
  have c_Form_f : CalCN l.prog w K mg base 3 "Form" C ["self", "width", "point", "manner", "ends"] 2 ["ends"] _ _ := ⟨f_Form___init__, _, _, ⟨mk_C, a_Form___init__, i_Form___init__, kc_C⟩, PySem.W.mg_of X G aC_C, kbf, okF⟩
  have m_least : CalM l.prog w K mg base 1 C "least" ["self"] _ := ⟨f_Form_least, _, ⟨a_Form_least, i_Form_least, k_Form_least⟩, b_Form_least, ok_Form_least (k := 0) T F_Form_least⟩
  have m_greatest : CalM l.prog w K mg base 1 C "greatest" ["self"] _ := ⟨f_Form_greatest, _, ⟨a_Form_greatest, i_Form_greatest, k_Form_greatest⟩, b_Form_greatest, ok_Form_greatest (k := 0) T F_Form_greatest⟩
  have m_has : CalM l.prog w K mg base 2 C "has" ["self", "thing"] _ := ⟨f_Form_has, _, ⟨a_Form_has, i_Form_has, k_Form_has⟩, b_Form_has, ok_Form_has T F_Form_has c_is_whole m_least m_greatest⟩
  have m_is_bits : CalM l.prog w K mg base 1 C "is_bits" ["self", "thing"] _ := ⟨f_Form_is_bits, _, ⟨a_Form_is_bits, i_Form_is_bits, k_Form_is_bits⟩, b_Form_is_bits, ok_Form_is_bits (k := 0) T F_Form_is_bits z⟩
  have XX : Errs K mg CE CU CT CB CN := ⟨PySem.W.mg_of X G aC_CE, PySem.W.mg_of X G aC_CU, PySem.W.mg_of X G aC_CT, PySem.W.mg_of X G aC_CB, PySem.W.mg_of X G aC_CN, XC_CU, XC_CT, nf_CU, nf_CT, xm_CU, xm_CT, ki_CU_CU, ki_CU_CT, ki_CU_CB, ki_CU_CN, ki_CT_CU, ki_CT_CT, ki_CT_CB, ki_CT_CN⟩
  have okB := ok_Form_bits (base := base) T EC_CU (unfit_ini t_CU z_CU EC_CU IC_CU) F_Form_bits m_has
  have okW := ok_Form_word_of (base := base) T EC_CT (notext_ini t_CT z_CT EC_CT IC_CT) F_Form_word_of z m_has m_is_bits
  have m_bits : CalMX l.prog w K mg base 3 C "bits" ["self", "word"] _ := ⟨f_Form_bits, _, ⟨a_Form_bits, i_Form_bits, k_Form_bits⟩, b_Form_bits, okB⟩
  have m_bits_k : CalMXK l.prog w K mg base 3 C "bits" ["self", "word"] ["word"] _ _ := ⟨f_Form_bits, _, _, ⟨a_Form_bits, i_Form_bits, k_Form_bits⟩, kb_bits, okB⟩
  have m_word_of : CalMX l.prog w K mg base 3 C "word_of" ["self", "bits"] _ := ⟨f_Form_word_of, _, ⟨a_Form_word_of, i_Form_word_of, k_Form_word_of⟩, b_Form_word_of, okW⟩
  have m_word_of_k : CalMXK l.prog w K mg base 3 C "word_of" ["self", "bits"] ["bits"] _ _ := ⟨f_Form_word_of, _, _, ⟨a_Form_word_of, i_Form_word_of, k_Form_word_of⟩, kb_word_of, okW⟩
  have c__law_cell_at : Cal l.prog w K mg base 1 "_law_cell_at" ["_law_script", "_law_k"] _ := ⟨f__law_cell_at, _, PySem.W.mg_of X G a__law_cell_at, k__law_cell_at, b__law_cell_at, ok_cell (k := 0) F__law_cell_at z.len⟩
  have c__law_well : Cal l.prog w K mg base 1 "_law_well" ["_law_cell"] _ := ⟨f__law_well, _, PySem.W.mg_of X G a__law_well, k__law_well, b__law_well, ok_well (k := 0) F__law_well z.int⟩
  have c__law_draw : Cal l.prog w K mg base 1 "_law_draw" ["_law_well_here", "_law_many"] _ := ⟨f__law_draw, _, PySem.W.mg_of X G a__law_draw, k__law_draw, b__law_draw, ok_draw (k := 0) F__law_draw⟩
  have c__law_bits : Cal l.prog w K mg base 1 "_law_bits" ["_law_entry", "_law_width"] _ := ⟨f__law_bits, _, PySem.W.mg_of X G a__law_bits, k__law_bits, b__law_bits, ok__law_bits (k := 0) F__law_bits z⟩
  have c__law_spoiled : Cal l.prog w K mg base 2 "_law_spoiled" ["_law_text", "_law_well_here"] _ := ⟨f__law_spoiled, _, PySem.W.mg_of X G a__law_spoiled, k__law_spoiled, b__law_spoiled, ok__law_spoiled F__law_spoiled z c__law_draw⟩
  exact ok_law T F_law z XX EC_CU EC_CT TB F__law_refused (PySem.W.mg_of X G a__law_refused) b__law_refused c__law_cell_at c__law_well c__law_draw c__law_bits c__law_spoiled c_Form c_Form_f m_bits m_bits_k m_word_of m_word_of_k

end E1

open PySem PySem.W PyProof.Rows
set_option maxRecDepth 100000 in
set_option maxHeartbeats 0 in
theorem PySem.Challenge.cw_echobound_k07_bits_holds : PySem.Challenge.rw_echobound_k07_bits.Holds := by
  w_on; o_law; km_head; (case hw => w_witness2)
  k_fill
  refine LamX.walk_ofTs (l := PySem.Challenge.rw_echobound_k07_bits) (n := 63) (k := 8) (x := "_law_script") (CX := fun _ => L2.CX0) rfl (by decide) rfl ⟨rfl, by decide, by decide⟩ (fun w h Y => PySem.W.km_in_of Y) ?F (fun _ _ _ _ _ h => h)
  case F =>
    intro w mg fa h Y KX G hmg
    refine' E1.all_mk KX G hmg ?a_is_whole ?l_is_whole ?c_is_whole ?k_is_whole ?a_downward ?l_downward ?c_downward ?k_downward ?a_upward ?l_upward ?c_upward ?k_upward ?a_inward ?l_inward ?c_inward ?k_inward ?a_outward ?l_outward ?c_outward ?k_outward ?a_nearest_greater ?l_nearest_greater ?c_nearest_greater ?k_nearest_greater ?a_nearest_even ?l_nearest_even ?c_nearest_even ?k_nearest_even ?a_nearest_far ?l_nearest_far ?c_nearest_far ?k_nearest_far ?a_is_manner ?l_is_manner ?c_is_manner ?k_is_manner ?a_is_width ?l_is_width ?c_is_width ?k_is_width ?a_is_point ?l_is_point ?c_is_point ?k_is_point ?a_is_ends ?l_is_ends ?c_is_ends ?k_is_ends ?a__law_cell_at ?l__law_cell_at ?c__law_cell_at ?k__law_cell_at ?a__law_well ?l__law_well ?c__law_well ?k__law_well ?a__law_draw ?l__law_draw ?c__law_draw ?k__law_draw ?a__law_bits ?l__law_bits ?c__law_bits ?k__law_bits ?a__law_refused ?l__law_refused ?c__law_refused ?k__law_refused ?a__law_spoiled ?l__law_spoiled ?c__law_spoiled ?k__law_spoiled ?a_law ?l_law ?c_law ?k_law ?lc_law ?v11_law ?hd_law ?nT_law ?hT_law ?aC_C ?pg_C ?hd_C ?po_C ?sa_C ?mk_C ?kc_C ?n_C_width ?n_C_point ?n_C_manner ?n_C_ends ?a_Form_least ?i_Form_least ?l_Form_least ?c_Form_least ?k_Form_least ?a_Form_greatest ?i_Form_greatest ?l_Form_greatest ?c_Form_greatest ?k_Form_greatest ?a_Form_has ?i_Form_has ?l_Form_has ?c_Form_has ?k_Form_has ?a_Form_bits ?i_Form_bits ?l_Form_bits ?c_Form_bits ?k_Form_bits ?a_Form_is_bits ?i_Form_is_bits ?l_Form_is_bits ?c_Form_is_bits ?k_Form_is_bits ?a_Form_word_of ?i_Form_word_of ?l_Form_word_of ?c_Form_word_of ?k_Form_word_of ?a_Form___init__ ?i_Form___init__ ?l_Form___init__ ?c_Form___init__ ?k_Form___init__ ?t_Form___init__ ?g_LEAST_WIDTH ?g_GREATEST_WIDTH ?g_GREATEST_POINT ?g_ENDS ?t_ENDS ?g_MANNERS ?t_MANNERS ?y_MANNERS ?w_MANNERS ?d_MANNERS_down ?d_MANNERS_up ?d_MANNERS_in ?d_MANNERS_out ?d_MANNERS_half ?d_MANNERS_even ?d_MANNERS_far ?aC_CE ?aC_CB ?aC_CN ?aC_CU ?ei_CU ?eo_CU ?sa_CU ?ga_CU ?gg_CU ?kC_CU ?ex_CU ?ty_CU ?hd_CU ?ha_CU ?hn_CU ?ht_CU ?hm_CU ?iC_CU ?tC_CU ?l_CU ?cd_CU ?lc_CU ?v2_CU ?fl_CU ?ce_CU ?nf_CU ?su_CU ?sA_CU ?sf_CU ?th_CU ?ms_CU ?tp_CU ?t_CU ?z_CU ?xm_CU ?aC_CT ?ei_CT ?eo_CT ?sa_CT ?ga_CT ?gg_CT ?kC_CT ?ex_CT ?ty_CT ?hd_CT ?ha_CT ?hn_CT ?ht_CT ?hm_CT ?iC_CT ?tC_CT ?l_CT ?cd_CT ?lc_CT ?v2_CT ?fl_CT ?ce_CT ?nf_CT ?su_CT ?sA_CT ?sf_CT ?th_CT ?ms_CT ?tp_CT ?t_CT ?z_CT ?xm_CT ?ki_CU_CU ?ki_CU_CT ?ki_CU_CB ?ki_CU_CN ?ki_CT_CU ?ki_CT_CT ?ki_CT_CB ?ki_CT_CN ?z_isinstance ?z_int ?z_bool ?z_str ?z_abs ?z_len ?z_all ?z_range
    (case a_is_whole => k_is)
    (case l_is_whole => k_is)
    (case c_is_whole => k_is)
    (case k_is_whole => k_is)
    (case a_downward => k_is)
    (case l_downward => k_is)
    (case c_downward => k_is)
    (case k_downward => k_is)
    (case a_upward => k_is)
    (case l_upward => k_is)
    (case c_upward => k_is)
    (case k_upward => k_is)
    (case a_inward => k_is)
    (case l_inward => k_is)
    (case c_inward => k_is)
    (case k_inward => k_is)
    (case a_outward => k_is)
    (case l_outward => k_is)
    (case c_outward => k_is)
    (case k_outward => k_is)
    (case a_nearest_greater => k_is)
    (case l_nearest_greater => k_is)
    (case c_nearest_greater => k_is)
    (case k_nearest_greater => k_is)
    (case a_nearest_even => k_is)
    (case l_nearest_even => k_is)
    (case c_nearest_even => k_is)
    (case k_nearest_even => k_is)
    (case a_nearest_far => k_is)
    (case l_nearest_far => k_is)
    (case c_nearest_far => k_is)
    (case k_nearest_far => k_is)
    (case a_is_manner => k_is)
    (case l_is_manner => k_is)
    (case c_is_manner => k_is)
    (case k_is_manner => k_is)
    (case a_is_width => k_is)
    (case l_is_width => k_is)
    (case c_is_width => k_is)
    (case k_is_width => k_is)
    (case a_is_point => k_is)
    (case l_is_point => k_is)
    (case c_is_point => k_is)
    (case k_is_point => k_is)
    (case a_is_ends => k_is)
    (case l_is_ends => k_is)
    (case c_is_ends => k_is)
    (case k_is_ends => k_is)
    (case a__law_cell_at => k_is)
    (case l__law_cell_at => k_is)
    (case c__law_cell_at => k_is)
    (case k__law_cell_at => k_is)
    (case a__law_well => k_is)
    (case l__law_well => k_is)
    (case c__law_well => k_is)
    (case k__law_well => k_is)
    (case a__law_draw => k_is)
    (case l__law_draw => k_is)
    (case c__law_draw => k_is)
    (case k__law_draw => k_is)
    (case a__law_bits => k_is)
    (case l__law_bits => k_is)
    (case c__law_bits => k_is)
    (case k__law_bits => k_is)
    (case a__law_refused => k_is)
    (case l__law_refused => k_is)
    (case c__law_refused => k_is)
    (case k__law_refused => k_is)
    (case a__law_spoiled => k_is)
    (case l__law_spoiled => k_is)
    (case c__law_spoiled => k_is)
    (case k__law_spoiled => k_is)
    (case a_law => k_is)
    (case l_law => k_is)
    (case c_law => k_is)
    (case k_law => k_is)
    (case lc_law => k_is)
    (case v11_law => rfl)
    (case hd_law => first | kernel_rfl | rfl | decide +kernel)
    (case nT_law => first | kernel_rfl | rfl | decide +kernel)
    (case hT_law => exact PySem.W.km_tabs_of Y _ (by first | k_mem | decide | simp))
    (case aC_C => k_is)
    (case pg_C => k_is)
    (case hd_C => k_is)
    (case po_C => k_is)
    (case sa_C => k_is)
    (case mk_C => k_is)
    (case kc_C => k_is)
    (case n_C_width => k_is)
    (case n_C_point => k_is)
    (case n_C_manner => k_is)
    (case n_C_ends => k_is)
    (case a_Form_least => k_is)
    (case i_Form_least => k_is)
    (case l_Form_least => k_is)
    (case c_Form_least => k_is)
    (case k_Form_least => k_is)
    (case a_Form_greatest => k_is)
    (case i_Form_greatest => k_is)
    (case l_Form_greatest => k_is)
    (case c_Form_greatest => k_is)
    (case k_Form_greatest => k_is)
    (case a_Form_has => k_is)
    (case i_Form_has => k_is)
    (case l_Form_has => k_is)
    (case c_Form_has => k_is)
    (case k_Form_has => k_is)
    (case a_Form_bits => k_is)
    (case i_Form_bits => k_is)
    (case l_Form_bits => k_is)
    (case c_Form_bits => k_is)
    (case k_Form_bits => k_is)
    (case a_Form_is_bits => k_is)
    (case i_Form_is_bits => k_is)
    (case l_Form_is_bits => k_is)
    (case c_Form_is_bits => k_is)
    (case k_Form_is_bits => k_is)
    (case a_Form_word_of => k_is)
    (case i_Form_word_of => k_is)
    (case l_Form_word_of => k_is)
    (case c_Form_word_of => k_is)
    (case k_Form_word_of => k_is)
    (case a_Form___init__ => k_is)
    (case i_Form___init__ => k_is)
    (case l_Form___init__ => k_is)
    (case c_Form___init__ => k_is)
    (case k_Form___init__ => k_is)
    (case t_Form___init__ => k_is)
    (case g_LEAST_WIDTH => k_is)
    (case g_GREATEST_WIDTH => k_is)
    (case g_GREATEST_POINT => k_is)
    (case g_ENDS => k_is)
    (case t_ENDS => k_is)
    (case g_MANNERS => k_is)
    (case t_MANNERS => k_is)
    (case y_MANNERS => (repeat' first | exact trivial | refine ⟨⟨_, _, rfl, rfl⟩, ?_⟩))
    (case w_MANNERS => first | k_is | rfl | decide +kernel)
    (case d_MANNERS_down => k_is)
    (case d_MANNERS_up => k_is)
    (case d_MANNERS_in => k_is)
    (case d_MANNERS_out => k_is)
    (case d_MANNERS_half => k_is)
    (case d_MANNERS_even => k_is)
    (case d_MANNERS_far => k_is)
    (case aC_CE => k_is)
    (case aC_CB => k_is)
    (case aC_CN => k_is)
    (case aC_CU => k_is)
    (case ei_CU => kx_is)
    (case eo_CU => kx_is)
    (case sa_CU => k_is)
    (case ga_CU => k_is)
    (case gg_CU => k_is)
    (case kC_CU => k_is)
    (case ex_CU => k_is)
    (case ty_CU => k_is)
    (case hd_CU => k_is)
    (case ha_CU => k_is)
    (case hn_CU => k_is)
    (case ht_CU => k_is)
    (case hm_CU => k_is)
    (case iC_CU => k_is)
    (case tC_CU => k_is)
    (case l_CU => k_is)
    (case cd_CU => k_is)
    (case lc_CU => k_is)
    (case v2_CU => rfl)
    (case fl_CU => first | rfl | decide +kernel)
    (case ce_CU => k_is)
    (case nf_CU => k_is)
    (case su_CU => ks_is)
    (case sA_CU => k_is)
    (case sf_CU => k_is)
    (case th_CU => k_is)
    (case ms_CU => k_is)
    (case tp_CU => first | rfl | decide +kernel)
    (case t_CU => k_is)
    (case z_CU => rfl)
    (case xm_CU => kts_exm)
    (case aC_CT => k_is)
    (case ei_CT => kx_is)
    (case eo_CT => kx_is)
    (case sa_CT => k_is)
    (case ga_CT => k_is)
    (case gg_CT => k_is)
    (case kC_CT => k_is)
    (case ex_CT => k_is)
    (case ty_CT => k_is)
    (case hd_CT => k_is)
    (case ha_CT => k_is)
    (case hn_CT => k_is)
    (case ht_CT => k_is)
    (case hm_CT => k_is)
    (case iC_CT => k_is)
    (case tC_CT => k_is)
    (case l_CT => k_is)
    (case cd_CT => k_is)
    (case lc_CT => k_is)
    (case v2_CT => rfl)
    (case fl_CT => first | rfl | decide +kernel)
    (case ce_CT => k_is)
    (case nf_CT => k_is)
    (case su_CT => ks_is)
    (case sA_CT => k_is)
    (case sf_CT => k_is)
    (case th_CT => k_is)
    (case ms_CT => k_is)
    (case tp_CT => first | rfl | decide +kernel)
    (case t_CT => k_is)
    (case z_CT => rfl)
    (case xm_CT => kts_exm)
    (case ki_CU_CU => kit_is)
    (case ki_CU_CT => kit_is)
    (case ki_CU_CB => kit_is)
    (case ki_CU_CN => kit_is)
    (case ki_CT_CU => kit_is)
    (case ki_CT_CT => kit_is)
    (case ki_CT_CB => kit_is)
    (case ki_CT_CN => kit_is)
    (case z_isinstance => k_is)
    (case z_int => k_is)
    (case z_bool => k_is)
    (case z_str => k_is)
    (case z_abs => k_is)
    (case z_len => k_is)
    (case z_all => k_is)
    (case z_range => k_is)
